/- evac: which evacuations there aren't. -/
import Derived.Test.YtibcokiijlamcaaGreatDoorEvacAlive
import Derived.Test.YtibcokiijlamcaaGreatDoorTableEntry
import Derived.Deep.AppendLies
import Derived.Maps.OwnIn
import Derived.LoopTactic
namespace Go.Proofs.YtibcokiijlamcaaGreatDoor.evac
open Go.ChangeShapes Go.WideShapes Go.ChangeAt Go.RowKit Go.Shelf swar under trap meter group probe lens tail call table
attribute [local go_sem] Oper.semAt_some stage.pureUpon move.stepUpon
set_option linter.unusedSimpArgs false
set_option linter.unusedVariables false

set_option maxRecDepth 20000 in
set_option maxHeartbeats 1000000 in
theorem rng_a (T0 B0 : Nat) (t0 : Tb) (d : Int) (so : Option Addr) (n : Nat) (c : Nat) (w : World) (cC : Calls Tryz.prog 55 #[.slice so n c, .pointer none] w fun e w' => e = .returned (.bool false) ∧ w = w') (h1 : n ≠ 1) (h2 : n ≠ 2) (hT : TAt T0 B0 t0 w) (er : Value) (he : w.cell? ⟨3, 0, none⟩ = some er) :
    Calls Tryz.prog 27 #[.pointer (some ⟨T0, 0, none⟩), .int .i64 d, .slice so n c] w fun e w' => e = .returned (.tuple #[.pointer none, er]) ∧ Below w.heap.size w w' := by
  have hs := tab_some
  have cG := groups_any T0 B0 t0 w hT
  have hb := new_block w (.cells #[.pointer (some ⟨T0, 0, none⟩), .int .i64 (t0.n : Nat), .int .i64 0, .int .i64 0, .pointer none, .pointer none] 98)
  have y := Under.cell (keepc hb he)
  have q1 : (((n : Nat) : Int) == 1) = false := beq_eq_false_iff_ne.2 (by omega)
  have q1' : (n == 1) = false := beq_eq_false_iff_ne.2 h1
  have q2 : (((n : Nat) : Int) == 2) = false := beq_eq_false_iff_ne.2 (by omega)
  have q2' : (n == 2) = false := beq_eq_false_iff_ne.2 h2
  clear h1 h2
  clear hT he
  generalize t0.n = n0 at *
  go_enter Tryz.func27, Tryz.ntmps27
  go_wp2_with (first
    | (go_at_call 55; refine cC.mono ?_; rintro e w1 ⟨rfl, rfl⟩)
    | (go_at_call 28; refine cG.mono ?_; rintro e w1 ⟨rfl, rfl⟩))
  refine wp_region_under (by kernel_rfl) (by kernel_rfl) ?_
  repeat (go_big_quiet_step (fail))
  refine wpQuiet_nil ?_
  intro wz hwz
  obtain ⟨z, rfl⟩ := hwz
  go_wp2
  go_ret2
  exact ⟨rfl, under.below_step hb z.below⟩
set_option maxRecDepth 20000 in
set_option maxHeartbeats 1000000 in
theorem rng_b (T0 B0 : Nat) (t0 : Tb) (d : Int) (so : Option Addr) (n : Nat) (c : Nat) (w : World) (cC : Calls Tryz.prog 55 #[.slice so 2 c, .pointer none] w fun e w' => e = .returned (.bool false) ∧ w = w') (h : d < 0) (hT : TAt T0 B0 t0 w) (er : Value) (he : w.cell? ⟨3, 0, none⟩ = some er) :
    Calls Tryz.prog 27 #[.pointer (some ⟨T0, 0, none⟩), .int .i64 d, .slice so 2 c] w fun e w' => e = .returned (.tuple #[.pointer none, er]) ∧ Below w.heap.size w w' := by
  have hs := tab_some
  have cG := groups_any T0 B0 t0 w hT
  have hb := new_block w (.cells #[.pointer (some ⟨T0, 0, none⟩), .int .i64 (t0.n : Nat), .int .i64 0, .int .i64 0, .pointer none, .pointer none] 98)
  have y := Under.cell (keepc hb he)
  have d1 : decide ((0 : Int) ≤ d) = false := decide_eq_false (by omega)
  clear h
  clear hT he
  generalize t0.n = n0 at *
  go_enter Tryz.func27, Tryz.ntmps27
  go_wp2_with (first
    | (go_at_call 55; refine cC.mono ?_; rintro e w1 ⟨rfl, rfl⟩)
    | (go_at_call 28; refine cG.mono ?_; rintro e w1 ⟨rfl, rfl⟩))
  refine wp_region_under (by kernel_rfl) (by kernel_rfl) ?_
  repeat (go_big_quiet_step (fail))
  refine wpQuiet_nil ?_
  intro wz hwz
  obtain ⟨z, rfl⟩ := hwz
  go_wp2
  go_ret2
  exact ⟨rfl, under.below_step hb z.below⟩
set_option maxRecDepth 20000 in
set_option maxHeartbeats 1000000 in
theorem rng_c (T0 B0 : Nat) (t0 : Tb) (d : Int) (so : Option Addr) (n : Nat) (c : Nat) (w : World) (cC : Calls Tryz.prog 55 #[.slice so 2 c, .pointer none] w fun e w' => e = .returned (.bool false) ∧ w = w') (h : 15 < d) (hT : TAt T0 B0 t0 w) (er : Value) (he : w.cell? ⟨3, 0, none⟩ = some er) :
    Calls Tryz.prog 27 #[.pointer (some ⟨T0, 0, none⟩), .int .i64 d, .slice so 2 c] w fun e w' => e = .returned (.tuple #[.pointer none, er]) ∧ Below w.heap.size w w' := by
  have hs := tab_some
  have cG := groups_any T0 B0 t0 w hT
  have hb := new_block w (.cells #[.pointer (some ⟨T0, 0, none⟩), .int .i64 (t0.n : Nat), .int .i64 0, .int .i64 0, .pointer none, .pointer none] 98)
  have y := Under.cell (keepc hb he)
  have d1 : decide ((0 : Int) ≤ d) = true := decide_eq_true (by omega)
  have d2 : decide (d ≤ (15 : Int)) = false := decide_eq_false (by omega)
  clear h
  clear hT he
  generalize t0.n = n0 at *
  go_enter Tryz.func27, Tryz.ntmps27
  go_wp2_with (first
    | (go_at_call 55; refine cC.mono ?_; rintro e w1 ⟨rfl, rfl⟩)
    | (go_at_call 28; refine cG.mono ?_; rintro e w1 ⟨rfl, rfl⟩))
  refine wp_region_under (by kernel_rfl) (by kernel_rfl) ?_
  repeat (go_big_quiet_step (fail))
  refine wpQuiet_nil ?_
  intro wz hwz
  obtain ⟨z, rfl⟩ := hwz
  go_wp2
  go_ret2
  exact ⟨rfl, under.below_step hb z.below⟩
/-- so many tables are made, and lie in a slice -/
structure Er (w : World) (T0 B0 j : Nat) (va : Value) (W : World) : Prop where
  t0 : TAt T0 B0 (Tb.new 1) W
  al : ∃ ts : List Nat, ts.length = j ∧ W.ownsRow w.heap.size 52 1 va j (ts.map fun b => .pointer (some ⟨b, 0, none⟩))
  bel : Below w.heap.size w W
  n0 : ∀ g, va.ownBlock = some g → g ≠ T0 ∧ g ≠ B0
theorem Er.next {w W W1 W6 : World} {T0 B0 j : Nat} {va : Value} (h : Er w T0 B0 j va W) {T' : Nat} (hb1 : Below W.heap.size W W1) {o1 : Obj} {ts : List Nat} (hl : ts.length = j) (hlt : ∀ g, va.ownBlock = some g → w.heap.size ≤ g ∧ g < W.heap.size) {g1 c1 : Nat}
    (hr1 : W6.ownsRow w.heap.size 52 1 (.slice (some ⟨g1, 0, none⟩) (j + 1) c1) (j + 1) (ts.map (fun b => .pointer (some ⟨b, 0, none⟩)) ++ [.pointer (some ⟨T', 0, none⟩)])) (hg1 : (W1.alloc o1).grownBy W6 va.ownBlock) (ha1 : va.ownBlock = some g1 ∨ g1 = W1.heap.size + 1) :
    Er w T0 B0 (j + 1) (.slice (some ⟨g1, 0, none⟩) (j + 1) c1) W6 := by
  have p := past_grown hg1
  have mt : ∀ {o : Option Nat} {b : Nat}, b ∈ o.toList → o = some b := fun {o b} hb => by cases o with
    | none => cases hb
    | some x => simp at hb; rw [hb]
  have b3 := new_block W1 o1
  have z1 := hb1.size
  have l1 := h.t0.lt
  have l2 := h.t0.lb
  refine ⟨((h.t0.below hb1).below b3).past p (fun e => (h.n0 _ (mt e)).1 rfl) (fun e => (h.n0 _ (mt e)).2 rfl), ⟨ts ++ [T'], by simp [hl], by rw [List.map_append]; exact hr1⟩, ?_, fun g hg => ?_⟩
  · have hb := under.below_step (under.below_step h.bel hb1) b3
    exact hb.trans (p.below hb.size fun b hb' => (hlt b (mt hb')).1)
  · obtain rfl : g1 = g := by injection hg
    rcases ha1 with e | rfl
    · exact h.n0 _ e
    · exact ⟨by omega, by omega⟩
theorem num_of (a : String → Addr) (w : World) (h : errs.ErrsOk errs.names a w) (k : Nat) (hk : k < 16) : Calls Tryz.prog 14 #[errs.errV (a (errs.nm k))] w fun e w' => e = .returned (.int .i64 ((k + 1 : Nat) : Int)) ∧ Below w.heap.size w w' := errs.num_at a k hk w h
theorem rem4 (x : Int) : ∃ n : Nat, n < 4 ∧ wrap64 ((IntKind.u64.wrap x).tmod 4) = (n : Int) := by
  have h1 := ent_num x (la := 4) (by decide) (by decide)
  have h2 := kN_lt x (show 1 ≤ 4 by decide)
  rw [uN_cast x, Int.tmod_eq_emod_of_nonneg (by omega)]
  exact ⟨kN x 4, h2, h1.2.1⟩
theorem Er.ptrs {w W : World} {T0 B0 n : Nat} {va : Value} (h : Er w T0 B0 n va W) : ∃ (so : Option Addr) (c : Nat) (ts : List Nat), va = .slice so n c ∧ ts.length = n ∧ PtrsAt so (ts.map fun b => some (⟨b, 0, none⟩ : Addr)) W ∧ (0 < n → ∃ g, so = some ⟨g, 0, none⟩ ∧ w.heap.size ≤ g ∧ (∀ i, W.frozen? ⟨g, i, none⟩ = false) ∧ g ≠ T0 ∧ g ≠ B0) := by
  obtain ⟨ts, hl, hr⟩ := h.al
  have hr' := hr
  obtain ⟨hx, hr⟩ := hr
  rcases hr with ⟨rfl, hn⟩ | ⟨g, c, cur, rfl, hb, hg, hc, _⟩
  · refine ⟨none, 0, ts, by rw [hn], hl, fun j hj => ?_, fun hp => by omega⟩
    rw [List.length_map] at hj; omega
  · have hcell := fun j u hj => hr'.cells (g := g) rfl j u hj
    refine ⟨_, c, ts, rfl, hl, fun j hj => ⟨_, rfl, ?_⟩, fun hp => ⟨g, rfl, hb, fun i => frozen_of_row _ _ i _ _ hg, h.n0 g rfl⟩⟩
    rw [List.length_map] at hj
    have := hcell j (.pointer (some ⟨ts[j], 0, none⟩)) (by rw [List.getElem?_map, List.getElem?_eq_getElem hj]; rfl)
    rw [List.getElem_map]
    exact this
/-- the last one is set to nil -/
theorem PtrsAt.last {g n : Nat} {ps : List (Option Addr)} {W : World} (h : PtrsAt (some ⟨g, 0, none⟩) ps W) (hl : ps.length = n + 1) : PtrsAt (some ⟨g, 0, none⟩) (ps.set n none) (W.setCell ⟨g, n, none⟩ (.pointer none)) ∧ (ps.set n none).any Option.isNone = true ∧ (ps.set n none).length = n + 1 := by
  refine ⟨fun j hj => ⟨_, rfl, ?_⟩, ?_, by simp [hl]⟩
  · rw [List.length_set] at hj
    obtain ⟨x, hx, hc⟩ := h j hj
    obtain rfl := (Option.some.inj hx)
    rw [add_at, Nat.zero_add] at hc ⊢
    by_cases e : n = j
    · subst e
      rw [List.getElem_set_self]
      exact World.cell?_setCell_same _ _ _ hc
    · rw [List.getElem_set_ne e]
      rw [World.cell?_setCell_other _ _ _ _ (fun e' => by injection e' with _ e2; exact e e2)]
      exact hc
  · refine List.any_eq_true.2 ⟨none, ?_, rfl⟩
    exact List.mem_set (by omega) none
set_option maxRecDepth 100000 in
set_option maxHeartbeats 2000000 in
theorem errs_law (a : String → Addr) (x0 d : Int) (none' : Bool) (w : World) (hw : Base a w) :
    Calls Tryz.prog 5 #[.int .i64 x0, .int .i64 d, .bool none'] w fun e w' => e = .returned (.bool true) ∧ Below w.heap.size w w' := by
  obtain ⟨i0, hi0, hq0, hq1, hq2⟩ := info_parts infoTab
  have hts := tab_some
  have htn := tab_none
  have hes := ev_some
  have hen := ev_none
  have cA := alive_any a w (.of hw)
  obtain ⟨n, hn4, hx⟩ := rem4 x0
  have HW := Lib.hid hw
  have cN : ∀ W, Calls Tryz.prog 26 #[.int .i64 1] W _ := fun W => new_ex 1 (by decide) W
  clear hw
  go_enter Tryz.func5, Tryz.ntmps5
  go_wp2_with (first
    | (go_at_call 7; refine cA.mono ?_; rintro e w1 ⟨rfl, hb1⟩)
    | (go_at_call 26; refine (cN _).mono ?_; rintro e w2 ⟨T0, B0, rfl, hT2, hT, hB, hb2⟩))
  have hb3 := new_block w2 (.cells #[] 52)
  have hb12 := under.below_step hb1 hb2
  have HS0 := Lib.hid (show Er w T0 B0 0 (.slice (some ⟨w2.heap.size, 0, none⟩) 0 0) (w2.alloc (.cells #[] 52)) from
    ⟨hT2.below hb3, ⟨[], rfl, rfl, .inr ⟨_, 0, #[], rfl, hb12.size, World.alloc_heap_new w2 _, by decide, by decide, by simp, by simp⟩⟩, under.below_step hb12 hb3, fun g hg => by
      obtain rfl : w2.heap.size = g := by injection hg
      have := hT2.lt
      have := hT2.lb
      omega⟩)
  clear hT2 hb3 hb12 hb1 hT hB hb2 cA
  generalize w2.alloc (.cells #[] 52) = W0 at *
  generalize Value.slice (some (⟨w2.heap.size, 0, none⟩ : Addr)) 0 0 = v0 at *
  go_loopw [27, 10] (fun i va wr => ∃ j : Nat, j ≤ n ∧ i = .int .i64 j ∧ Hid (Er w T0 B0 j va wr)) (fun i _ _ => n - (intOf i).toNat)
  case atStart => exact ⟨0, by omega, rfl, HS0⟩
  case round =>
    obtain ⟨j, hj, rfl, HR⟩ := hrel
    clear HS0
    rcases Nat.lt_or_ge j n with hjl | hjl
    · have hji : (j : Int) < (n : Int) := by omega
      obtain ⟨ts, hl, hal⟩ := HR.out.al
      have HAL := Lib.hid hal
      have hlt := fun g (hg : _ = some g) => row_lt hal hg
      clear hal
      go_wp2_with (first
        | (go_at_call 26; refine (cN _).mono ?_; rintro e w5 ⟨T', B', rfl, hT4, hT', hB', hb4⟩; have HB := Lib.hid hb4; clear hT4 hT' hB')
        | (at_builtin; refine wpList_append_lies _ rfl _ _ 28 rfl w.heap.size 52 i0 (.pointer none) 1 8 Tryz.underlying28 hi0 hq0 hq1 hq2 rfl (by decide) _ _ _ rfl (row_below (row_below HAL.out HB.out) (new_block _ _)) ⟨w5.heap.size, 0, none⟩ 1 1 [.pointer (some ⟨T', 0, none⟩)] rfl rfl (cell_one_new w5 _ _) (by simp [Value.oneCell']) (by decide) (by simp only [maxLen]; omega) (by omega) (by have := HR.out.bel.size; have := HB.out.size; simp; omega) (w5.heap.size + 1) (by simp) ?_; intro g1 c1 w6 hrA hgA haA hlA; have HE := Lib.hid (HR.out.next HB.out hl hlt hrA hgA haA); clear hrA hgA haA hlA))
      go_roundw
      case rel => exact ⟨j + 1, by omega, by simp, HE⟩
      case measure => simp [intOf]; omega
    · obtain rfl : j = n := by omega
      obtain ⟨so, c, ts, rfl, hl, hP, hpos⟩ := HR.out.ptrs
      have hT0 := HR.out.t0
      have hbel := HR.out.bel
      have hE3 := (HW.out.below hbel).errs.at errs.gErrNone (errs.nm_mem (i := 3) (by decide))
      have hE0 := (HW.out.below hbel).errs.at errs.gErrRange (errs.nm_mem (i := 0) (by decide))
      have hany : (ts.map fun b => some (⟨b, 0, none⟩ : Addr)).any Option.isNone = false := by
        rw [List.any_eq_false]; intro x hx; obtain ⟨b, _, rfl⟩ := List.mem_map.1 hx; simp
      have hpl : (ts.map fun b => some (⟨b, 0, none⟩ : Addr)).length = j := by rw [List.length_map, hl]
      generalize (ts.map fun b => some (⟨b, 0, none⟩ : Addr)) = ps at *
      have HB := Lib.hid hbel
      clear HR hl hx hjl hj cN hbel
      obtain rfl | rfl | rfl | rfl : j = 0 ∨ j = 1 ∨ j = 2 ∨ j = 3 := by omega
      · cases none' with
        | false =>
          have cC := contains_any so ps (by omega) c _ hP
          rw [hpl, hany] at cC
          have cE := rng_a T0 B0 _ d so 0 c _ cC (by decide) (by decide) hT0 _ hE0
          clear cC hP hpos hE3 hE0 hT0 hany hpl
          go_wp2_with (first
            | (go_at_call 27; refine cE.mono ?_; rintro e w7 ⟨rfl, hb7⟩; have hN := num_of a w7 ((HW.out.below HB.out).below hb7).errs 0 (by decide); have HB7 := Lib.hid (under.below_step HB.out hb7); clear hb7)
            | (go_at_call 14; refine hN.mono ?_; rintro e w8 ⟨rfl, hb8⟩))
          go_ret
          exact ⟨rfl, under.below_step HB7.out hb8⟩
        | true =>
          have cE := new_none none d so ps (by omega) c (.inl rfl) _ hP _ hE3
          rw [hpl] at cE
          clear hP hpos hE3 hE0 hT0 hany hpl
          go_wp2_with (first
            | (go_at_call 27; refine cE.mono ?_; rintro e w7 ⟨rfl, hb7⟩; have hN := num_of a w7 ((HW.out.below HB.out).below hb7).errs 3 (by decide); have HB7 := Lib.hid (under.below_step HB.out hb7); clear hb7)
            | (go_at_call 14; refine hN.mono ?_; rintro e w8 ⟨rfl, hb8⟩))
          go_ret
          exact ⟨rfl, under.below_step HB7.out hb8⟩
      · cases none' with
        | false =>
          obtain ⟨g, rfl, hg, hfz, hgT⟩ := hpos (by decide)
          obtain ⟨x, hx, hc0⟩ := hP 0 (by omega)
          obtain rfl := Option.some.inj hx
          rw [add_at] at hc0
          have hp0 : ps[0]'(by omega) ≠ none := fun e => by have := List.any_eq_false.1 hany _ (List.getElem_mem (show 0 < ps.length by omega)); rw [e] at this; exact this rfl
          obtain ⟨y, hy⟩ := Option.ne_none_iff_exists'.1 hp0
          rw [hy] at hc0
          have cE := new_one T0 B0 _ d g 0 y c _ hT0 hc0
          clear hP hpos hE3 hE0 hT0 hany hpl hx hc0 hp0 hy
          go_wp2_with (first
            | (go_at_call 27; refine cE.mono ?_; rintro e w7 ⟨V, rfl, _, _, hb7⟩; have hN := errs.num_nil w7; have HB7 := Lib.hid (under.below_step HB.out hb7); clear hb7)
            | (go_at_call 14; refine hN.mono ?_; rintro e w8 ⟨rfl, rfl⟩))
          go_ret
          exact ⟨rfl, HB7.out⟩
        | true =>
          obtain ⟨g, rfl, hg, hfz, hgT⟩ := hpos (by decide)
          obtain ⟨x, hx, hc0⟩ := hP 0 (by omega)
          obtain rfl := Option.some.inj hx
          rw [add_at] at hc0
          rw [Nat.zero_add] at hc0
          obtain ⟨vv, hvv⟩ : ∃ vv, ps[0]'(by omega) = vv := ⟨_, rfl⟩
          rw [hvv] at hc0
          clear hvv hx
          have hf := hfz 0
          obtain ⟨q1, q2, q3⟩ := hP.last hpl
          have hbS := bset HB.out g 0 hg (.pointer none)
          have hE3' := ((HW.out.below hbS).errs.at errs.gErrNone (errs.nm_mem (i := 3) (by decide)))
          have cE := new_none (some ⟨T0, 0, none⟩) d _ _ (by omega) c (.inr q2) _ q1 _ hE3'
          rw [q3] at cE
          have HBS := Lib.hid hbS
          clear hP hpos hE3 hE0 hT0 hany hpl q1 q2 q3 hfz hE3' hbS
          go_wp2_with (first
            | (go_at_call 27; refine cE.mono ?_; rintro e w7 ⟨rfl, hb7⟩; have hN := num_of a w7 ((HW.out.below HBS.out).below hb7).errs 3 (by decide); have HB7 := Lib.hid (under.below_step HBS.out hb7); clear hb7)
            | (go_at_call 14; refine hN.mono ?_; rintro e w8 ⟨rfl, hb8⟩))
          go_ret
          exact ⟨rfl, under.below_step HB7.out hb8⟩
      · cases none' with
        | false =>
          by_cases hd0 : d < 0
          · have cC := contains_any so ps (by omega) c _ hP
            rw [hpl, hany] at cC
            have cE := rng_b T0 B0 _ d so 2 c _ cC hd0 hT0 _ hE0
            have d1 : decide (d < 0) = true := decide_eq_true hd0
            clear cC hP hpos hE3 hE0 hT0 hany hpl hd0
            go_wp2_with (first
              | (go_at_call 27; refine cE.mono ?_; rintro e w7 ⟨rfl, hb7⟩; have hN := num_of a w7 ((HW.out.below HB.out).below hb7).errs 0 (by decide); have HB7 := Lib.hid (under.below_step HB.out hb7); clear hb7)
              | (go_at_call 14; refine hN.mono ?_; rintro e w8 ⟨rfl, hb8⟩))
            go_ret
            exact ⟨rfl, under.below_step HB7.out hb8⟩
          · by_cases hd1 : 15 < d
            · have cC := contains_any so ps (by omega) c _ hP
              rw [hpl, hany] at cC
              have cE := rng_c T0 B0 _ d so 2 c _ cC hd1 hT0 _ hE0
              have d1 : decide (d < 0) = false := decide_eq_false hd0
              have d2 : decide (15 < d) = true := decide_eq_true hd1
              clear cC hP hpos hE3 hE0 hT0 hany hpl hd0 hd1
              go_wp2_with (first
                | (go_at_call 27; refine cE.mono ?_; rintro e w7 ⟨rfl, hb7⟩; have hN := num_of a w7 ((HW.out.below HB.out).below hb7).errs 0 (by decide); have HB7 := Lib.hid (under.below_step HB.out hb7); clear hb7)
                | (go_at_call 14; refine hN.mono ?_; rintro e w8 ⟨rfl, hb8⟩))
              go_ret
              exact ⟨rfl, under.below_step HB7.out hb8⟩
            · obtain ⟨g, rfl, hg, hfz, hgT⟩ := hpos (by decide)
              obtain ⟨x, hx, hc0⟩ := hP 0 (by omega)
              obtain rfl := Option.some.inj hx
              rw [add_at] at hc0
              have hp0 : ps[0]'(by omega) ≠ none := fun e => by have := List.any_eq_false.1 hany _ (List.getElem_mem (show 0 < ps.length by omega)); rw [e] at this; exact this rfl
              obtain ⟨y0, hy0⟩ := Option.ne_none_iff_exists'.1 hp0
              rw [hy0] at hc0
              clear hx
              obtain ⟨x, hx, hc1⟩ := hP 1 (by omega)
              obtain rfl := Option.some.inj hx
              rw [add_at] at hc1
              have hp1 : ps[1]'(by omega) ≠ none := fun e => by have := List.any_eq_false.1 hany _ (List.getElem_mem (show 1 < ps.length by omega)); rw [e] at this; exact this rfl
              obtain ⟨y1, hy1⟩ := Option.ne_none_iff_exists'.1 hp1
              rw [hy1] at hc1
              clear hx
              obtain ⟨dn, rfl⟩ := Int.eq_ofNat_of_zero_le (show 0 ≤ d by omega)
              have cE := new_two T0 B0 _ dn (by omega) g 0 y0 y1 c _ hT0 hc0 hc1
              have d1 : decide ((dn : Int) < 0) = false := decide_eq_false hd0
              have d2 : decide ((15 : Int) < (dn : Int)) = false := decide_eq_false hd1
              have d3 : decide (15 < dn) = false := decide_eq_false (by omega)
              clear hP hpos hE3 hE0 hT0 hany hpl hc0 hp0 hy0 hc1 hp1 hy1 hd0 hd1
              go_wp2_with (first
                | (go_at_call 27; refine cE.mono ?_; rintro e w7 ⟨V, rfl, _, _, hb7⟩; have hN := errs.num_nil w7; have HB7 := Lib.hid (under.below_step HB.out hb7); clear hb7)
                | (go_at_call 14; refine hN.mono ?_; rintro e w8 ⟨rfl, rfl⟩))
              go_ret
              exact ⟨rfl, HB7.out⟩
        | true =>
          obtain ⟨g, rfl, hg, hfz, hgT⟩ := hpos (by decide)
          obtain ⟨x, hx, hc0⟩ := hP 1 (by omega)
          obtain rfl := Option.some.inj hx
          rw [add_at] at hc0
          rw [Nat.zero_add] at hc0
          obtain ⟨vv, hvv⟩ : ∃ vv, ps[1]'(by omega) = vv := ⟨_, rfl⟩
          rw [hvv] at hc0
          clear hvv hx
          have hf := hfz 1
          obtain ⟨q1, q2, q3⟩ := hP.last hpl
          have hbS := bset HB.out g 1 hg (.pointer none)
          have hE3' := ((HW.out.below hbS).errs.at errs.gErrNone (errs.nm_mem (i := 3) (by decide)))
          have cE := new_none (some ⟨T0, 0, none⟩) d _ _ (by omega) c (.inr q2) _ q1 _ hE3'
          rw [q3] at cE
          have HBS := Lib.hid hbS
          clear hP hpos hE3 hE0 hT0 hany hpl q1 q2 q3 hfz hE3' hbS
          go_wp2_with (first
            | (go_at_call 27; refine cE.mono ?_; rintro e w7 ⟨rfl, hb7⟩; have hN := num_of a w7 ((HW.out.below HBS.out).below hb7).errs 3 (by decide); have HB7 := Lib.hid (under.below_step HBS.out hb7); clear hb7)
            | (go_at_call 14; refine hN.mono ?_; rintro e w8 ⟨rfl, hb8⟩))
          go_ret
          exact ⟨rfl, under.below_step HB7.out hb8⟩
      · cases none' with
        | false =>
          have cC := contains_any so ps (by omega) c _ hP
          rw [hpl, hany] at cC
          have cE := rng_a T0 B0 _ d so 3 c _ cC (by decide) (by decide) hT0 _ hE0
          clear cC hP hpos hE3 hE0 hT0 hany hpl
          go_wp2_with (first
            | (go_at_call 27; refine cE.mono ?_; rintro e w7 ⟨rfl, hb7⟩; have hN := num_of a w7 ((HW.out.below HB.out).below hb7).errs 0 (by decide); have HB7 := Lib.hid (under.below_step HB.out hb7); clear hb7)
            | (go_at_call 14; refine hN.mono ?_; rintro e w8 ⟨rfl, hb8⟩))
          go_ret
          exact ⟨rfl, under.below_step HB7.out hb8⟩
        | true =>
          obtain ⟨g, rfl, hg, hfz, hgT⟩ := hpos (by decide)
          obtain ⟨x, hx, hc0⟩ := hP 2 (by omega)
          obtain rfl := Option.some.inj hx
          rw [add_at] at hc0
          rw [Nat.zero_add] at hc0
          obtain ⟨vv, hvv⟩ : ∃ vv, ps[2]'(by omega) = vv := ⟨_, rfl⟩
          rw [hvv] at hc0
          clear hvv hx
          have hf := hfz 2
          obtain ⟨q1, q2, q3⟩ := hP.last hpl
          have hbS := bset HB.out g 2 hg (.pointer none)
          have hE3' := ((HW.out.below hbS).errs.at errs.gErrNone (errs.nm_mem (i := 3) (by decide)))
          have cE := new_none (some ⟨T0, 0, none⟩) d _ _ (by omega) c (.inr q2) _ q1 _ hE3'
          rw [q3] at cE
          have HBS := Lib.hid hbS
          clear hP hpos hE3 hE0 hT0 hany hpl q1 q2 q3 hfz hE3' hbS
          go_wp2_with (first
            | (go_at_call 27; refine cE.mono ?_; rintro e w7 ⟨rfl, hb7⟩; have hN := num_of a w7 ((HW.out.below HBS.out).below hb7).errs 3 (by decide); have HB7 := Lib.hid (under.below_step HBS.out hb7); clear hb7)
            | (go_at_call 14; refine hN.mono ?_; rintro e w8 ⟨rfl, hb8⟩))
          go_ret
          exact ⟨rfl, under.below_step HB7.out hb8⟩
end Go.Proofs.YtibcokiijlamcaaGreatDoor.evac
