/- MeterActs: the walk. -/
import Derived.Test.YtfabhnbiijnohaaDoorMeterDo
import Derived.Test.YtfabhnbiijnohaaDoorMeterRef
import Derived.RegionTactic
namespace Go.Proofs.YtfabhnbiijnohaaDoor.meter
open Go.RowKit errs under trap tail
set_option linter.unusedSimpArgs false
set_option linter.unusedVariables false

/-- behind so many acts: the meter and the document's hold the same -/
structure ActsOk (w : World) (B : Nat) (m : Mt) (W : World) : Prop where
  ok : m.Ok
  mt : MAt B 0 m W
  rt : RAt (B + 1) m W
  below : Below w.heap.size w W
  hB : w.heap.size ≤ B
theorem RAt.new (w : World) : RAt w.heap.size Mt.zero (w.alloc (.cells #[.int .i64 0, .int .i64 0, .int .i64 0, .int .i64 0, .int .i64 0, .int .i64 0, .int .i64 (-1)] 33)) := by
  constructor <;> simp [Mt.zero, Mt.rlim, go_sem]
theorem ActsOk.start {w w1 : World} (hb : Below w.heap.size w w1) : ActsOk w w1.heap.size Mt.zero ((w1.alloc (.cells #[.int .i64 0, .int .i64 0, .int .i64 0, .int .i64 0, .int .i64 0, .int .i64 0, .int .i64 0, .bool false] 28)).alloc (.cells #[.int .i64 0, .int .i64 0, .int .i64 0, .int .i64 0, .int .i64 0, .int .i64 0, .int .i64 (-1)] 33)) := by
  have h1 := (MAt.new w1).below (new_block _ (.cells #[.int .i64 0, .int .i64 0, .int .i64 0, .int .i64 0, .int .i64 0, .int .i64 0, .int .i64 (-1)] 33))
  have h2 := RAt.new (w1.alloc (.cells #[.int .i64 0, .int .i64 0, .int .i64 0, .int .i64 0, .int .i64 0, .int .i64 0, .int .i64 0, .bool false] 28))
  rw [World.size_alloc] at h2
  exact ⟨Mt.zero_ok, h1, h2, below_step hb (box_below _ _ _), hb.size⟩
/-- an act's cells in a block behind -/
structure ActAt (A : Nat) (k n : Int) (W : World) : Prop where
  k : W.cell? ⟨A, 0, none⟩ = some (.int .i64 k)
  n : W.cell? ⟨A, 1, none⟩ = some (.int .i64 n)
theorem ActAt.past {A : Nat} {k n : Int} {d : List Nat} {w w' : World} (h : ActAt A k n w) (hp : Past d w w') (h0 : A ∉ d) : ActAt A k n w' := ⟨hp.cell h.k h0, hp.cell h.n h0⟩
/-- ahead of an act done to the meter: the document's meter has it already -/
structure Mid (w : World) (B A : Nat) (m m' : Mt) (k n : Int) (W : World) : Prop where
  mt : MAt B 0 m W
  rt : RAt (B + 1) m' W
  act : ActAt A k n W
  below : Below w.heap.size w W
theorem Mid.of {w W W' : World} {B A : Nat} {m m0 m' : Mt} {k n : Int} (h : Mid w B A m m0 k n W) (hs : RStep (B + 1) m' W W') (hA : B + 1 < A) (hB : w.heap.size ≤ B) : Mid w B A m m' k n W' :=
  ⟨h.mt.past hs.past (by simp), hs.at', h.act.past hs.past (by simp; omega), h.below.trans (hs.past.below h.below.size (by simp; omega))⟩
theorem Mid.start {w W : World} {B : Nat} {m : Mt} (h : ActsOk w B m W) (k n : Int) : Mid w B W.heap.size m m k n (W.alloc (.cells #[.int .i64 k, .int .i64 n] 35)) :=
  ⟨h.mt.below (new_block _ _), h.rt.below (new_block _ _), ⟨by simp, by simp⟩, below_step h.below (new_block _ _)⟩
theorem Mid.reset {w W : World} {B : Nat} {m : Mt} (h : ActsOk w B m W) (k n : Int) : Mid w B W.heap.size m m.reset k n ((((W.setCell ⟨B + 1, 3, none⟩ (.int .i64 0)).setCell ⟨B + 1, 4, none⟩ (.int .i64 0)).setCell ⟨B + 1, 5, none⟩ (.int .i64 0)).alloc (.cells #[.int .i64 k, .int .i64 n] 35)) := by
  have hz : (((W.setCell ⟨B + 1, 3, none⟩ (.int .i64 0)).setCell ⟨B + 1, 4, none⟩ (.int .i64 0)).setCell ⟨B + 1, 5, none⟩ (.int .i64 0)).heap.size = W.heap.size := by simp [World.setCell]
  have hp : Past [B + 1] W (((W.setCell ⟨B + 1, 3, none⟩ (.int .i64 0)).setCell ⟨B + 1, 4, none⟩ (.int .i64 0)).setCell ⟨B + 1, 5, none⟩ (.int .i64 0)) := (((Past.refl _ _).store (p := ⟨B + 1, 3, none⟩) (.inl (by simp)) _).store (p := ⟨B + 1, 4, none⟩) (.inl (by simp)) _).store (p := ⟨B + 1, 5, none⟩) (.inl (by simp)) _
  have hr : RAt (B + 1) m.reset (((W.setCell ⟨B + 1, 3, none⟩ (.int .i64 0)).setCell ⟨B + 1, 4, none⟩ (.int .i64 0)).setCell ⟨B + 1, 5, none⟩ (.int .i64 0)) := by
    obtain ⟨h0, h1, h2, h3, h4, h5, h6, hf⟩ := h.rt
    constructor <;> simp [Mt.reset, Mt.rlim, World.cell?_setCell_same', World.cell?_setCell_other, h0, h1, h2, h3, h4, h5, h6, hf]
    rfl
  have hm := h.mt.past hp (by simp)
  have hb := h.below.trans (hp.below h.below.size (by have := h.hB; simp; omega))
  generalize ((W.setCell ⟨B + 1, 3, none⟩ (.int .i64 0)).setCell ⟨B + 1, 4, none⟩ (.int .i64 0)).setCell ⟨B + 1, 5, none⟩ (.int .i64 0) = W' at hz hp hr hm hb ⊢
  rw [← hz]
  exact ⟨hm.below (new_block _ _), hr.below (new_block _ _), ⟨by simp, by simp⟩, below_step hb (new_block _ _)⟩
theorem Mid.limit {w W : World} {B : Nat} {m : Mt} (h : ActsOk w B m W) (k n v : Int) (hv : v = if 0 ≤ n then n else -1) : Mid w B W.heap.size m (m.limit n) k n ((W.setCell ⟨B + 1, 6, none⟩ (.int .i64 v)).alloc (.cells #[.int .i64 k, .int .i64 n] 35)) := by
  have hz : (W.setCell ⟨B + 1, 6, none⟩ (.int .i64 v)).heap.size = W.heap.size := by simp [World.setCell]
  have hp : Past [B + 1] W (W.setCell ⟨B + 1, 6, none⟩ (.int .i64 v)) := (Past.refl _ _).store (p := ⟨B + 1, 6, none⟩) (.inl (by simp)) _
  have hr : RAt (B + 1) (m.limit n) (W.setCell ⟨B + 1, 6, none⟩ (.int .i64 v)) := by
    obtain ⟨h0, h1, h2, h3, h4, h5, h6, hf⟩ := h.rt
    constructor <;> simp [Mt.limit, Mt.rlim, World.cell?_setCell_same', World.cell?_setCell_other, h0, h1, h2, h3, h4, h5, h6, hf, hv]
  have hm := h.mt.past hp (by simp)
  have hb := h.below.trans (hp.below h.below.size (by have := h.hB; simp; omega))
  generalize W.setCell ⟨B + 1, 6, none⟩ (.int .i64 v) = W' at hz hp hr hm hb ⊢
  rw [← hz]
  exact ⟨hm.below (new_block _ _), hr.below (new_block _ _), ⟨by simp, by simp⟩, below_step hb (new_block _ _)⟩
theorem unitE_at (m : Mt) (n : Int) : m.unitE n = 0 ∨ m.unitE n = 11 := by
  unfold Mt.unitE; split
  · exact .inl rfl
  · split
    · exact .inr rfl
    · exact .inl rfl

theorem acts_many (s : Option Addr) (la ca : Nat) (h60 : 60 < la) (w : World) (a : String → Addr) (hE : ErrsOk names a w) :
    Calls Tryd.prog 3 #[.slice s la ca] w fun e w' => e = .returned (.bool true) ∧ Below w.heap.size w w' := by
  have hA := alive_any a w (hE.at gErrLimit (nm_mem (i := 10) (by decide)))
  have h1 : (60 : Int) < (la : Int) := by omega
  go_enter Tryd.func3, Tryd.ntmps3
  go_wp2_with (go_at_call 7; refine hA.mono ?_; rintro e w1 ⟨rfl, hb1⟩)
  go_ret
  exact ⟨rfl, hb1⟩
set_option maxHeartbeats 4000000 in
set_option maxRecDepth 100000 in
theorem acts_few (s : Option Addr) (la ca : Nat) (kz nz : Nat → Int) (h60 : la ≤ 60) (w : World) (a : String → Addr) (hE : ∀ w', Below w.heap.size w w' → ErrsOk names a w')
    (hA : ∀ j, j < la → ∃ x, s = some x ∧ (∀ W, Below w.heap.size w W → W.cell? (x.add (j * 2)) = some (.int .i64 (kz j)) ∧ W.cell? ⟨(x.add (j * 2)).block, (x.add (j * 2)).off + 1, none⟩ = some (.int .i64 (nz j))) ∧ -9223372036854775808 ≤ nz j ∧ nz j ≤ 9223372036854775807) :
    Calls Tryd.prog 3 #[.slice s la ca] w fun e w' => e = .returned (.bool true) ∧ Below w.heap.size w w' := by
  have hAl := alive_any a w ((hE w (Below.refl _ _)).at gErrLimit (nm_mem (i := 10) (by decide)))
  have h1 : ¬ (60 : Int) < (la : Int) := by omega
  have HE := Lib.hid hE
  have HA := Lib.hid hA
  clear hE hA
  have e3 := fun x y z wx => eq_same3' x y z wx
  go_enter Tryd.func3, Tryd.ntmps3
  go_wp2_with (go_at_call 7; refine hAl.mono ?_; rintro e w1 ⟨rfl, hb1⟩)
  have HS := Lib.hid (ActsOk.start hb1)
  have hB1 := hb1.size
  clear hAl hb1
  go_loopw [19] (fun i wr => ∃ (j : Nat) (m : Mt), j ≤ la ∧ i = .int .i64 j ∧ ActsOk w w1.heap.size m wr) (fun i _ => la - (intOf i).toNat)
  case atStart => exact ⟨0, Mt.zero, by omega, rfl, HS.out⟩
  case round =>
    obtain ⟨j, m, hj, rfl, hp⟩ := hrel
    rcases Nat.lt_or_ge j la with hjl | hjl
    · obtain ⟨x, rfl, hcs, bn0, bn1⟩ := HA.out j hjl
      obtain ⟨ck, cn⟩ := hcs _ hp.below
      have hji : (j : Int) < (la : Int) := by omega
      have hw1 : j + 1 ≤ la := by omega
      have hlt := hp.rt.lt
      have HP := Lib.hid hp
      have HOk := Lib.hid hp.ok
      have hM0 := Mid.start hp (kz j) (nz j)
      have HBn := Lib.hid (And.intro bn0 bn1)
      clear hcs hp bn0 bn1
      generalize hgk : kz j = k at *
      generalize hgn : nz j = n at *
      clear hgk hgn
      have HM0 := Lib.hid hM0
      clear hM0
      by_cases hk : k < 0 ∨ 4 < k
      · have k0 : (k == 0) = false := by simp; omega
        have k1 : (k == 1) = false := by simp; omega
        have k2 : (k == 2) = false := by simp; omega
        have k3 : (k == 3) = false := by simp; omega
        have k4 : (k == 4) = false := by simp; omega
        have HK := Lib.hid hk
        clear hk
        go_wp2
        · generalize wr.alloc (.cells #[.int .i64 k, .int .i64 n] 35) = W3 at HM0 ⊢
          have HM := HM0
          clear HM0 ck cn HP
          have hMt := HM.out.mt
          have hy := HM.out.act
          have hp0 : Past [w1.heap.size] W3 W3.drew := ⟨rfl, rfl, rfl, Nat.le_refl _, fun _ _ _ => rfl⟩
          have hD := do_any a w1.heap.size m HOk.out k n W3.drew hMt.drew (fun wx hx => HE.out wx (HM.out.below.trans ((hp0.trans hx).below HM.out.below.size (by simp; omega))))
          have hOk2 := doM_ok HOk.out k n HBn.out.1 HBn.out.2
          have hdE : ((doE m k n : Nat) : Int) = 0 := by unfold doE; rw [if_neg (by have := HK.out; omega)]; rfl
          have hdM : doM m k n = m := by unfold doM; have := HK.out; rw [if_neg (by omega), if_neg (by omega), if_neg (by omega), if_neg (by omega), if_neg (by omega)]
          rw [hdE, hdM] at hD
          rw [hdM] at hOk2
          have HD := Lib.hid hD
          have HO2 := Lib.hid hOk2
          clear hD hdE hdM hMt hOk2
          obtain ⟨y0, y1⟩ := hy
          refine wp_region_any (by kernel_rfl) ?_
          refine wpAny_take (i := 0) (v := .pointer (some ⟨w1.heap.size, 0, none⟩)) rfl (by kernel_rfl) (by kernel_rfl) (by kernel_rfl) (fun _ _ _ h => h) (Or.inl ⟨by rfl, fun wx => by go_simp⟩) ?_
          refine wpAny_take (i := 3) (v := .int .i64 0) rfl (by kernel_rfl) (by kernel_rfl) (by kernel_rfl) (fun _ _ _ h => h) (Or.inl ⟨by rfl, fun wx => by go_simp⟩) ?_
          refine wpAny_ready (rs := [1]) (by kernel_rfl) (by simp) ?_
          refine AllReady.cons rfl (fun K hK => ?_) AllReady.nil
          go_simp
          refine hK _ _ ?_
          clear hK K
          refine wpAny_ready (rs := [2]) (by kernel_rfl) (by simp) ?_
          refine AllReady.cons rfl (fun K hK => ?_) AllReady.nil
          go_simp
          refine HD.out.mono ?_
          rintro e w4 ⟨rfl, hp4, hm4⟩
          refine hK _ _ ?_
          clear hK K
          have hp34 := hp0.trans hp4
          have hr4 := HM.out.rt.past hp34 (by simp)
          have hb4 := HM.out.below.trans (hp34.below HM.out.below.size (by simp; omega))
          have cA := fun q : Under w4 => all_any w1.heap.size 0 (m) q.W (hm4.below q.below)
          have cL := fun q : Under w4 => last_any w1.heap.size 0 (m) q.W (hm4.below q.below)
          have r0 := Under.cell hr4.pa
          have r1 := Under.cell hr4.va
          have r2 := Under.cell hr4.ua
          have r3 := Under.cell hr4.pl
          have r4 := Under.cell hr4.vl
          have r5 := Under.cell hr4.ul
          have HF := Lib.hid (And.intro hm4 (And.intro hr4 hb4))
          have CA := Lib.hid cA
          have CL := Lib.hid cL
          clear y0 y1 hp34 hp4 hp0 hm4 hr4 hb4 HD HM cA cL
          refine wpAny_head (C := fun w' => ∃ q : Under w4, w' = q.W) (g := 0) [false, false, false, false, true, true, true, true, true, true, true, true, true, true, true, true, true, true, true, true, true, true, true, true, true] (by kernel_rfl) ⟨⟨_, Below.refl _ _⟩, rfl⟩ ?_
          simp only [sel, setAll]
          repeat (quiet_step ((first
            | (go_at_call 11; (with_reducible refine under_call (CA.out _)))
            | (go_at_call 12; (with_reducible refine under_call (CL.out _)))
            | (go_at_call 10; (with_reducible refine under_call (of_any _ _ _ _))))))
          refine wpQuiet_nil ?_
          intro w5 hw5
          obtain ⟨q, rfl⟩ := hw5
          refine wpAny_done (by kernel_rfl) ?_ _
          have hfin : ActsOk w w1.heap.size (m) q.W := ⟨HO2.out, HF.out.1.below q.below, HF.out.2.1.below q.below, below_step HF.out.2.2 q.below, hB1⟩
          have HFin := Lib.hid hfin
          clear hfin CA CL HF HO2 r0 r1 r2 r3 r4 r5 e3
          go_wp2
          go_roundw
          case rel => exact ⟨j + 1, _, hw1, by simp, HFin.out⟩
          case measure => simp [intOf]; omega
      · have hk5 : k = 0 ∨ k = 1 ∨ k = 2 ∨ k = 3 ∨ k = 4 := by omega
        clear hk
        rcases hk5 with rfl | rfl | rfl | rfl | rfl
        · rcases visN_at n with ⟨g1, g2⟩ | ⟨g0, g1, g2⟩ | ⟨g1, g2⟩
          · skip
            have HG := Lib.hid g2
            clear g2
            have hAdd := radd_probes (w1.heap.size + 1) m HOk.out (0) (by decide) _ HM0.out.rt
            have HAdd := Lib.hid hAdd
            clear hAdd
            go_wp2_with (go_at_call 8; (with_reducible refine HAdd.out.mono ?_); rintro e W3 ⟨rfl, hs⟩)
            have HM := Lib.hid (HM0.out.of hs hlt hB1)
            clear HM0 ck cn HP hs HAdd
            have hMt := HM.out.mt
            have hy := HM.out.act
            have hp0 : Past [w1.heap.size] W3 W3.drew := ⟨rfl, rfl, rfl, Nat.le_refl _, fun _ _ _ => rfl⟩
            have hD := do_any a w1.heap.size m HOk.out 0 n W3.drew hMt.drew (fun wx hx => HE.out wx (HM.out.below.trans ((hp0.trans hx).below HM.out.below.size (by simp; omega))))
            have hOk2 := doM_ok HOk.out 0 n HBn.out.1 HBn.out.2
            have hdE : ((doE m 0 n : Nat) : Int) = 0 := by unfold doE; rw [if_neg (by decide)]; rfl
            have hdM : doM m 0 n = m.probes 0 := by unfold doM; rw [if_pos rfl, HG.out]
            rw [hdE, hdM] at hD
            rw [hdM] at hOk2
            have HD := Lib.hid hD
            have HO2 := Lib.hid hOk2
            clear hD hdE hdM hMt hOk2
            obtain ⟨y0, y1⟩ := hy
            refine wp_region_any (by kernel_rfl) ?_
            refine wpAny_take (i := 0) (v := .pointer (some ⟨w1.heap.size, 0, none⟩)) rfl (by kernel_rfl) (by kernel_rfl) (by kernel_rfl) (fun _ _ _ h => h) (Or.inl ⟨by rfl, fun wx => by go_simp⟩) ?_
            refine wpAny_take (i := 3) (v := .int .i64 0) rfl (by kernel_rfl) (by kernel_rfl) (by kernel_rfl) (fun _ _ _ h => h) (Or.inl ⟨by rfl, fun wx => by go_simp⟩) ?_
            refine wpAny_ready (rs := [1]) (by kernel_rfl) (by simp) ?_
            refine AllReady.cons rfl (fun K hK => ?_) AllReady.nil
            go_simp
            refine hK _ _ ?_
            clear hK K
            refine wpAny_ready (rs := [2]) (by kernel_rfl) (by simp) ?_
            refine AllReady.cons rfl (fun K hK => ?_) AllReady.nil
            go_simp
            refine HD.out.mono ?_
            rintro e w4 ⟨rfl, hp4, hm4⟩
            refine hK _ _ ?_
            clear hK K
            have hp34 := hp0.trans hp4
            have hr4 := HM.out.rt.past hp34 (by simp)
            have hb4 := HM.out.below.trans (hp34.below HM.out.below.size (by simp; omega))
            have cA := fun q : Under w4 => all_any w1.heap.size 0 (m.probes 0) q.W (hm4.below q.below)
            have cL := fun q : Under w4 => last_any w1.heap.size 0 (m.probes 0) q.W (hm4.below q.below)
            have r0 := Under.cell hr4.pa
            have r1 := Under.cell hr4.va
            have r2 := Under.cell hr4.ua
            have r3 := Under.cell hr4.pl
            have r4 := Under.cell hr4.vl
            have r5 := Under.cell hr4.ul
            have HF := Lib.hid (And.intro hm4 (And.intro hr4 hb4))
            have CA := Lib.hid cA
            have CL := Lib.hid cL
            clear y0 y1 hp34 hp4 hp0 hm4 hr4 hb4 HD HM cA cL
            refine wpAny_head (C := fun w' => ∃ q : Under w4, w' = q.W) (g := 0) [false, false, false, false, true, true, true, true, true, true, true, true, true, true, true, true, true, true, true, true, true, true, true, true, true] (by kernel_rfl) ⟨⟨_, Below.refl _ _⟩, rfl⟩ ?_
            simp only [sel, setAll]
            repeat (quiet_step ((first
              | (go_at_call 11; (with_reducible refine under_call (CA.out _)))
              | (go_at_call 12; (with_reducible refine under_call (CL.out _)))
              | (go_at_call 10; (with_reducible refine under_call (of_any _ _ _ _))))))
            refine wpQuiet_nil ?_
            intro w5 hw5
            obtain ⟨q, rfl⟩ := hw5
            refine wpAny_done (by kernel_rfl) ?_ _
            have hfin : ActsOk w w1.heap.size (m.probes 0) q.W := ⟨HO2.out, HF.out.1.below q.below, HF.out.2.1.below q.below, below_step HF.out.2.2 q.below, hB1⟩
            have HFin := Lib.hid hfin
            clear hfin CA CL HF HO2 r0 r1 r2 r3 r4 r5 e3
            go_wp2
            go_roundw
            case rel => exact ⟨j + 1, _, hw1, by simp, HFin.out⟩
            case measure => simp [intOf]; omega
          · skip
            have HG := Lib.hid g2
            clear g2
            have hAdd := radd_probes (w1.heap.size + 1) m HOk.out (n) g0 _ HM0.out.rt
            have HAdd := Lib.hid hAdd
            clear hAdd
            go_wp2_with (go_at_call 8; (with_reducible refine HAdd.out.mono ?_); rintro e W3 ⟨rfl, hs⟩)
            have HM := Lib.hid (HM0.out.of hs hlt hB1)
            clear HM0 ck cn HP hs HAdd
            have hMt := HM.out.mt
            have hy := HM.out.act
            have hp0 : Past [w1.heap.size] W3 W3.drew := ⟨rfl, rfl, rfl, Nat.le_refl _, fun _ _ _ => rfl⟩
            have hD := do_any a w1.heap.size m HOk.out 0 n W3.drew hMt.drew (fun wx hx => HE.out wx (HM.out.below.trans ((hp0.trans hx).below HM.out.below.size (by simp; omega))))
            have hOk2 := doM_ok HOk.out 0 n HBn.out.1 HBn.out.2
            have hdE : ((doE m 0 n : Nat) : Int) = 0 := by unfold doE; rw [if_neg (by decide)]; rfl
            have hdM : doM m 0 n = m.probes n := by unfold doM; rw [if_pos rfl, HG.out]
            rw [hdE, hdM] at hD
            rw [hdM] at hOk2
            have HD := Lib.hid hD
            have HO2 := Lib.hid hOk2
            clear hD hdE hdM hMt hOk2
            obtain ⟨y0, y1⟩ := hy
            refine wp_region_any (by kernel_rfl) ?_
            refine wpAny_take (i := 0) (v := .pointer (some ⟨w1.heap.size, 0, none⟩)) rfl (by kernel_rfl) (by kernel_rfl) (by kernel_rfl) (fun _ _ _ h => h) (Or.inl ⟨by rfl, fun wx => by go_simp⟩) ?_
            refine wpAny_take (i := 3) (v := .int .i64 0) rfl (by kernel_rfl) (by kernel_rfl) (by kernel_rfl) (fun _ _ _ h => h) (Or.inl ⟨by rfl, fun wx => by go_simp⟩) ?_
            refine wpAny_ready (rs := [1]) (by kernel_rfl) (by simp) ?_
            refine AllReady.cons rfl (fun K hK => ?_) AllReady.nil
            go_simp
            refine hK _ _ ?_
            clear hK K
            refine wpAny_ready (rs := [2]) (by kernel_rfl) (by simp) ?_
            refine AllReady.cons rfl (fun K hK => ?_) AllReady.nil
            go_simp
            refine HD.out.mono ?_
            rintro e w4 ⟨rfl, hp4, hm4⟩
            refine hK _ _ ?_
            clear hK K
            have hp34 := hp0.trans hp4
            have hr4 := HM.out.rt.past hp34 (by simp)
            have hb4 := HM.out.below.trans (hp34.below HM.out.below.size (by simp; omega))
            have cA := fun q : Under w4 => all_any w1.heap.size 0 (m.probes n) q.W (hm4.below q.below)
            have cL := fun q : Under w4 => last_any w1.heap.size 0 (m.probes n) q.W (hm4.below q.below)
            have r0 := Under.cell hr4.pa
            have r1 := Under.cell hr4.va
            have r2 := Under.cell hr4.ua
            have r3 := Under.cell hr4.pl
            have r4 := Under.cell hr4.vl
            have r5 := Under.cell hr4.ul
            have HF := Lib.hid (And.intro hm4 (And.intro hr4 hb4))
            have CA := Lib.hid cA
            have CL := Lib.hid cL
            clear y0 y1 hp34 hp4 hp0 hm4 hr4 hb4 HD HM cA cL
            refine wpAny_head (C := fun w' => ∃ q : Under w4, w' = q.W) (g := 0) [false, false, false, false, true, true, true, true, true, true, true, true, true, true, true, true, true, true, true, true, true, true, true, true, true] (by kernel_rfl) ⟨⟨_, Below.refl _ _⟩, rfl⟩ ?_
            simp only [sel, setAll]
            repeat (quiet_step ((first
              | (go_at_call 11; (with_reducible refine under_call (CA.out _)))
              | (go_at_call 12; (with_reducible refine under_call (CL.out _)))
              | (go_at_call 10; (with_reducible refine under_call (of_any _ _ _ _))))))
            refine wpQuiet_nil ?_
            intro w5 hw5
            obtain ⟨q, rfl⟩ := hw5
            refine wpAny_done (by kernel_rfl) ?_ _
            have hfin : ActsOk w w1.heap.size (m.probes n) q.W := ⟨HO2.out, HF.out.1.below q.below, HF.out.2.1.below q.below, below_step HF.out.2.2 q.below, hB1⟩
            have HFin := Lib.hid hfin
            clear hfin CA CL HF HO2 r0 r1 r2 r3 r4 r5 e3
            go_wp2
            go_roundw
            case rel => exact ⟨j + 1, _, hw1, by simp, HFin.out⟩
            case measure => simp [intOf]; omega
          · skip
            have HG := Lib.hid g2
            clear g2
            have hAdd := radd_probes (w1.heap.size + 1) m HOk.out (50) (by decide) _ HM0.out.rt
            have HAdd := Lib.hid hAdd
            clear hAdd
            go_wp2_with (go_at_call 8; (with_reducible refine HAdd.out.mono ?_); rintro e W3 ⟨rfl, hs⟩)
            have HM := Lib.hid (HM0.out.of hs hlt hB1)
            clear HM0 ck cn HP hs HAdd
            have hMt := HM.out.mt
            have hy := HM.out.act
            have hp0 : Past [w1.heap.size] W3 W3.drew := ⟨rfl, rfl, rfl, Nat.le_refl _, fun _ _ _ => rfl⟩
            have hD := do_any a w1.heap.size m HOk.out 0 n W3.drew hMt.drew (fun wx hx => HE.out wx (HM.out.below.trans ((hp0.trans hx).below HM.out.below.size (by simp; omega))))
            have hOk2 := doM_ok HOk.out 0 n HBn.out.1 HBn.out.2
            have hdE : ((doE m 0 n : Nat) : Int) = 0 := by unfold doE; rw [if_neg (by decide)]; rfl
            have hdM : doM m 0 n = m.probes 50 := by unfold doM; rw [if_pos rfl, HG.out]
            rw [hdE, hdM] at hD
            rw [hdM] at hOk2
            have HD := Lib.hid hD
            have HO2 := Lib.hid hOk2
            clear hD hdE hdM hMt hOk2
            obtain ⟨y0, y1⟩ := hy
            refine wp_region_any (by kernel_rfl) ?_
            refine wpAny_take (i := 0) (v := .pointer (some ⟨w1.heap.size, 0, none⟩)) rfl (by kernel_rfl) (by kernel_rfl) (by kernel_rfl) (fun _ _ _ h => h) (Or.inl ⟨by rfl, fun wx => by go_simp⟩) ?_
            refine wpAny_take (i := 3) (v := .int .i64 0) rfl (by kernel_rfl) (by kernel_rfl) (by kernel_rfl) (fun _ _ _ h => h) (Or.inl ⟨by rfl, fun wx => by go_simp⟩) ?_
            refine wpAny_ready (rs := [1]) (by kernel_rfl) (by simp) ?_
            refine AllReady.cons rfl (fun K hK => ?_) AllReady.nil
            go_simp
            refine hK _ _ ?_
            clear hK K
            refine wpAny_ready (rs := [2]) (by kernel_rfl) (by simp) ?_
            refine AllReady.cons rfl (fun K hK => ?_) AllReady.nil
            go_simp
            refine HD.out.mono ?_
            rintro e w4 ⟨rfl, hp4, hm4⟩
            refine hK _ _ ?_
            clear hK K
            have hp34 := hp0.trans hp4
            have hr4 := HM.out.rt.past hp34 (by simp)
            have hb4 := HM.out.below.trans (hp34.below HM.out.below.size (by simp; omega))
            have cA := fun q : Under w4 => all_any w1.heap.size 0 (m.probes 50) q.W (hm4.below q.below)
            have cL := fun q : Under w4 => last_any w1.heap.size 0 (m.probes 50) q.W (hm4.below q.below)
            have r0 := Under.cell hr4.pa
            have r1 := Under.cell hr4.va
            have r2 := Under.cell hr4.ua
            have r3 := Under.cell hr4.pl
            have r4 := Under.cell hr4.vl
            have r5 := Under.cell hr4.ul
            have HF := Lib.hid (And.intro hm4 (And.intro hr4 hb4))
            have CA := Lib.hid cA
            have CL := Lib.hid cL
            clear y0 y1 hp34 hp4 hp0 hm4 hr4 hb4 HD HM cA cL
            refine wpAny_head (C := fun w' => ∃ q : Under w4, w' = q.W) (g := 0) [false, false, false, false, true, true, true, true, true, true, true, true, true, true, true, true, true, true, true, true, true, true, true, true, true] (by kernel_rfl) ⟨⟨_, Below.refl _ _⟩, rfl⟩ ?_
            simp only [sel, setAll]
            repeat (quiet_step ((first
              | (go_at_call 11; (with_reducible refine under_call (CA.out _)))
              | (go_at_call 12; (with_reducible refine under_call (CL.out _)))
              | (go_at_call 10; (with_reducible refine under_call (of_any _ _ _ _))))))
            refine wpQuiet_nil ?_
            intro w5 hw5
            obtain ⟨q, rfl⟩ := hw5
            refine wpAny_done (by kernel_rfl) ?_ _
            have hfin : ActsOk w w1.heap.size (m.probes 50) q.W := ⟨HO2.out, HF.out.1.below q.below, HF.out.2.1.below q.below, below_step HF.out.2.2 q.below, hB1⟩
            have HFin := Lib.hid hfin
            clear hfin CA CL HF HO2 r0 r1 r2 r3 r4 r5 e3
            go_wp2
            go_roundw
            case rel => exact ⟨j + 1, _, hw1, by simp, HFin.out⟩
            case measure => simp [intOf]; omega
        · rcases visN_at n with ⟨g1, g2⟩ | ⟨g0, g1, g2⟩ | ⟨g1, g2⟩
          · skip
            have HG := Lib.hid g2
            clear g2
            have hAdd := radd_visits (w1.heap.size + 1) m HOk.out (0) (by decide) _ HM0.out.rt
            have HAdd := Lib.hid hAdd
            clear hAdd
            go_wp2_with (go_at_call 8; (with_reducible refine HAdd.out.mono ?_); rintro e W3 ⟨rfl, hs⟩)
            have HM := Lib.hid (HM0.out.of hs hlt hB1)
            clear HM0 ck cn HP hs HAdd
            have hMt := HM.out.mt
            have hy := HM.out.act
            have hp0 : Past [w1.heap.size] W3 W3.drew := ⟨rfl, rfl, rfl, Nat.le_refl _, fun _ _ _ => rfl⟩
            have hD := do_any a w1.heap.size m HOk.out 1 n W3.drew hMt.drew (fun wx hx => HE.out wx (HM.out.below.trans ((hp0.trans hx).below HM.out.below.size (by simp; omega))))
            have hOk2 := doM_ok HOk.out 1 n HBn.out.1 HBn.out.2
            have hdE : ((doE m 1 n : Nat) : Int) = 0 := by unfold doE; rw [if_neg (by decide)]; rfl
            have hdM : doM m 1 n = m.visits 0 := by unfold doM; rw [if_neg (by decide), if_pos rfl, HG.out]
            rw [hdE, hdM] at hD
            rw [hdM] at hOk2
            have HD := Lib.hid hD
            have HO2 := Lib.hid hOk2
            clear hD hdE hdM hMt hOk2
            obtain ⟨y0, y1⟩ := hy
            refine wp_region_any (by kernel_rfl) ?_
            refine wpAny_take (i := 0) (v := .pointer (some ⟨w1.heap.size, 0, none⟩)) rfl (by kernel_rfl) (by kernel_rfl) (by kernel_rfl) (fun _ _ _ h => h) (Or.inl ⟨by rfl, fun wx => by go_simp⟩) ?_
            refine wpAny_take (i := 3) (v := .int .i64 0) rfl (by kernel_rfl) (by kernel_rfl) (by kernel_rfl) (fun _ _ _ h => h) (Or.inl ⟨by rfl, fun wx => by go_simp⟩) ?_
            refine wpAny_ready (rs := [1]) (by kernel_rfl) (by simp) ?_
            refine AllReady.cons rfl (fun K hK => ?_) AllReady.nil
            go_simp
            refine hK _ _ ?_
            clear hK K
            refine wpAny_ready (rs := [2]) (by kernel_rfl) (by simp) ?_
            refine AllReady.cons rfl (fun K hK => ?_) AllReady.nil
            go_simp
            refine HD.out.mono ?_
            rintro e w4 ⟨rfl, hp4, hm4⟩
            refine hK _ _ ?_
            clear hK K
            have hp34 := hp0.trans hp4
            have hr4 := HM.out.rt.past hp34 (by simp)
            have hb4 := HM.out.below.trans (hp34.below HM.out.below.size (by simp; omega))
            have cA := fun q : Under w4 => all_any w1.heap.size 0 (m.visits 0) q.W (hm4.below q.below)
            have cL := fun q : Under w4 => last_any w1.heap.size 0 (m.visits 0) q.W (hm4.below q.below)
            have r0 := Under.cell hr4.pa
            have r1 := Under.cell hr4.va
            have r2 := Under.cell hr4.ua
            have r3 := Under.cell hr4.pl
            have r4 := Under.cell hr4.vl
            have r5 := Under.cell hr4.ul
            have HF := Lib.hid (And.intro hm4 (And.intro hr4 hb4))
            have CA := Lib.hid cA
            have CL := Lib.hid cL
            clear y0 y1 hp34 hp4 hp0 hm4 hr4 hb4 HD HM cA cL
            refine wpAny_head (C := fun w' => ∃ q : Under w4, w' = q.W) (g := 0) [false, false, false, false, true, true, true, true, true, true, true, true, true, true, true, true, true, true, true, true, true, true, true, true, true] (by kernel_rfl) ⟨⟨_, Below.refl _ _⟩, rfl⟩ ?_
            simp only [sel, setAll]
            repeat (quiet_step ((first
              | (go_at_call 11; (with_reducible refine under_call (CA.out _)))
              | (go_at_call 12; (with_reducible refine under_call (CL.out _)))
              | (go_at_call 10; (with_reducible refine under_call (of_any _ _ _ _))))))
            refine wpQuiet_nil ?_
            intro w5 hw5
            obtain ⟨q, rfl⟩ := hw5
            refine wpAny_done (by kernel_rfl) ?_ _
            have hfin : ActsOk w w1.heap.size (m.visits 0) q.W := ⟨HO2.out, HF.out.1.below q.below, HF.out.2.1.below q.below, below_step HF.out.2.2 q.below, hB1⟩
            have HFin := Lib.hid hfin
            clear hfin CA CL HF HO2 r0 r1 r2 r3 r4 r5 e3
            go_wp2
            go_roundw
            case rel => exact ⟨j + 1, _, hw1, by simp, HFin.out⟩
            case measure => simp [intOf]; omega
          · skip
            have HG := Lib.hid g2
            clear g2
            have hAdd := radd_visits (w1.heap.size + 1) m HOk.out (n) g0 _ HM0.out.rt
            have HAdd := Lib.hid hAdd
            clear hAdd
            go_wp2_with (go_at_call 8; (with_reducible refine HAdd.out.mono ?_); rintro e W3 ⟨rfl, hs⟩)
            have HM := Lib.hid (HM0.out.of hs hlt hB1)
            clear HM0 ck cn HP hs HAdd
            have hMt := HM.out.mt
            have hy := HM.out.act
            have hp0 : Past [w1.heap.size] W3 W3.drew := ⟨rfl, rfl, rfl, Nat.le_refl _, fun _ _ _ => rfl⟩
            have hD := do_any a w1.heap.size m HOk.out 1 n W3.drew hMt.drew (fun wx hx => HE.out wx (HM.out.below.trans ((hp0.trans hx).below HM.out.below.size (by simp; omega))))
            have hOk2 := doM_ok HOk.out 1 n HBn.out.1 HBn.out.2
            have hdE : ((doE m 1 n : Nat) : Int) = 0 := by unfold doE; rw [if_neg (by decide)]; rfl
            have hdM : doM m 1 n = m.visits n := by unfold doM; rw [if_neg (by decide), if_pos rfl, HG.out]
            rw [hdE, hdM] at hD
            rw [hdM] at hOk2
            have HD := Lib.hid hD
            have HO2 := Lib.hid hOk2
            clear hD hdE hdM hMt hOk2
            obtain ⟨y0, y1⟩ := hy
            refine wp_region_any (by kernel_rfl) ?_
            refine wpAny_take (i := 0) (v := .pointer (some ⟨w1.heap.size, 0, none⟩)) rfl (by kernel_rfl) (by kernel_rfl) (by kernel_rfl) (fun _ _ _ h => h) (Or.inl ⟨by rfl, fun wx => by go_simp⟩) ?_
            refine wpAny_take (i := 3) (v := .int .i64 0) rfl (by kernel_rfl) (by kernel_rfl) (by kernel_rfl) (fun _ _ _ h => h) (Or.inl ⟨by rfl, fun wx => by go_simp⟩) ?_
            refine wpAny_ready (rs := [1]) (by kernel_rfl) (by simp) ?_
            refine AllReady.cons rfl (fun K hK => ?_) AllReady.nil
            go_simp
            refine hK _ _ ?_
            clear hK K
            refine wpAny_ready (rs := [2]) (by kernel_rfl) (by simp) ?_
            refine AllReady.cons rfl (fun K hK => ?_) AllReady.nil
            go_simp
            refine HD.out.mono ?_
            rintro e w4 ⟨rfl, hp4, hm4⟩
            refine hK _ _ ?_
            clear hK K
            have hp34 := hp0.trans hp4
            have hr4 := HM.out.rt.past hp34 (by simp)
            have hb4 := HM.out.below.trans (hp34.below HM.out.below.size (by simp; omega))
            have cA := fun q : Under w4 => all_any w1.heap.size 0 (m.visits n) q.W (hm4.below q.below)
            have cL := fun q : Under w4 => last_any w1.heap.size 0 (m.visits n) q.W (hm4.below q.below)
            have r0 := Under.cell hr4.pa
            have r1 := Under.cell hr4.va
            have r2 := Under.cell hr4.ua
            have r3 := Under.cell hr4.pl
            have r4 := Under.cell hr4.vl
            have r5 := Under.cell hr4.ul
            have HF := Lib.hid (And.intro hm4 (And.intro hr4 hb4))
            have CA := Lib.hid cA
            have CL := Lib.hid cL
            clear y0 y1 hp34 hp4 hp0 hm4 hr4 hb4 HD HM cA cL
            refine wpAny_head (C := fun w' => ∃ q : Under w4, w' = q.W) (g := 0) [false, false, false, false, true, true, true, true, true, true, true, true, true, true, true, true, true, true, true, true, true, true, true, true, true] (by kernel_rfl) ⟨⟨_, Below.refl _ _⟩, rfl⟩ ?_
            simp only [sel, setAll]
            repeat (quiet_step ((first
              | (go_at_call 11; (with_reducible refine under_call (CA.out _)))
              | (go_at_call 12; (with_reducible refine under_call (CL.out _)))
              | (go_at_call 10; (with_reducible refine under_call (of_any _ _ _ _))))))
            refine wpQuiet_nil ?_
            intro w5 hw5
            obtain ⟨q, rfl⟩ := hw5
            refine wpAny_done (by kernel_rfl) ?_ _
            have hfin : ActsOk w w1.heap.size (m.visits n) q.W := ⟨HO2.out, HF.out.1.below q.below, HF.out.2.1.below q.below, below_step HF.out.2.2 q.below, hB1⟩
            have HFin := Lib.hid hfin
            clear hfin CA CL HF HO2 r0 r1 r2 r3 r4 r5 e3
            go_wp2
            go_roundw
            case rel => exact ⟨j + 1, _, hw1, by simp, HFin.out⟩
            case measure => simp [intOf]; omega
          · skip
            have HG := Lib.hid g2
            clear g2
            have hAdd := radd_visits (w1.heap.size + 1) m HOk.out (50) (by decide) _ HM0.out.rt
            have HAdd := Lib.hid hAdd
            clear hAdd
            go_wp2_with (go_at_call 8; (with_reducible refine HAdd.out.mono ?_); rintro e W3 ⟨rfl, hs⟩)
            have HM := Lib.hid (HM0.out.of hs hlt hB1)
            clear HM0 ck cn HP hs HAdd
            have hMt := HM.out.mt
            have hy := HM.out.act
            have hp0 : Past [w1.heap.size] W3 W3.drew := ⟨rfl, rfl, rfl, Nat.le_refl _, fun _ _ _ => rfl⟩
            have hD := do_any a w1.heap.size m HOk.out 1 n W3.drew hMt.drew (fun wx hx => HE.out wx (HM.out.below.trans ((hp0.trans hx).below HM.out.below.size (by simp; omega))))
            have hOk2 := doM_ok HOk.out 1 n HBn.out.1 HBn.out.2
            have hdE : ((doE m 1 n : Nat) : Int) = 0 := by unfold doE; rw [if_neg (by decide)]; rfl
            have hdM : doM m 1 n = m.visits 50 := by unfold doM; rw [if_neg (by decide), if_pos rfl, HG.out]
            rw [hdE, hdM] at hD
            rw [hdM] at hOk2
            have HD := Lib.hid hD
            have HO2 := Lib.hid hOk2
            clear hD hdE hdM hMt hOk2
            obtain ⟨y0, y1⟩ := hy
            refine wp_region_any (by kernel_rfl) ?_
            refine wpAny_take (i := 0) (v := .pointer (some ⟨w1.heap.size, 0, none⟩)) rfl (by kernel_rfl) (by kernel_rfl) (by kernel_rfl) (fun _ _ _ h => h) (Or.inl ⟨by rfl, fun wx => by go_simp⟩) ?_
            refine wpAny_take (i := 3) (v := .int .i64 0) rfl (by kernel_rfl) (by kernel_rfl) (by kernel_rfl) (fun _ _ _ h => h) (Or.inl ⟨by rfl, fun wx => by go_simp⟩) ?_
            refine wpAny_ready (rs := [1]) (by kernel_rfl) (by simp) ?_
            refine AllReady.cons rfl (fun K hK => ?_) AllReady.nil
            go_simp
            refine hK _ _ ?_
            clear hK K
            refine wpAny_ready (rs := [2]) (by kernel_rfl) (by simp) ?_
            refine AllReady.cons rfl (fun K hK => ?_) AllReady.nil
            go_simp
            refine HD.out.mono ?_
            rintro e w4 ⟨rfl, hp4, hm4⟩
            refine hK _ _ ?_
            clear hK K
            have hp34 := hp0.trans hp4
            have hr4 := HM.out.rt.past hp34 (by simp)
            have hb4 := HM.out.below.trans (hp34.below HM.out.below.size (by simp; omega))
            have cA := fun q : Under w4 => all_any w1.heap.size 0 (m.visits 50) q.W (hm4.below q.below)
            have cL := fun q : Under w4 => last_any w1.heap.size 0 (m.visits 50) q.W (hm4.below q.below)
            have r0 := Under.cell hr4.pa
            have r1 := Under.cell hr4.va
            have r2 := Under.cell hr4.ua
            have r3 := Under.cell hr4.pl
            have r4 := Under.cell hr4.vl
            have r5 := Under.cell hr4.ul
            have HF := Lib.hid (And.intro hm4 (And.intro hr4 hb4))
            have CA := Lib.hid cA
            have CL := Lib.hid cL
            clear y0 y1 hp34 hp4 hp0 hm4 hr4 hb4 HD HM cA cL
            refine wpAny_head (C := fun w' => ∃ q : Under w4, w' = q.W) (g := 0) [false, false, false, false, true, true, true, true, true, true, true, true, true, true, true, true, true, true, true, true, true, true, true, true, true] (by kernel_rfl) ⟨⟨_, Below.refl _ _⟩, rfl⟩ ?_
            simp only [sel, setAll]
            repeat (quiet_step ((first
              | (go_at_call 11; (with_reducible refine under_call (CA.out _)))
              | (go_at_call 12; (with_reducible refine under_call (CL.out _)))
              | (go_at_call 10; (with_reducible refine under_call (of_any _ _ _ _))))))
            refine wpQuiet_nil ?_
            intro w5 hw5
            obtain ⟨q, rfl⟩ := hw5
            refine wpAny_done (by kernel_rfl) ?_ _
            have hfin : ActsOk w w1.heap.size (m.visits 50) q.W := ⟨HO2.out, HF.out.1.below q.below, HF.out.2.1.below q.below, below_step HF.out.2.2 q.below, hB1⟩
            have HFin := Lib.hid hfin
            clear hfin CA CL HF HO2 r0 r1 r2 r3 r4 r5 e3
            go_wp2
            go_roundw
            case rel => exact ⟨j + 1, _, hw1, by simp, HFin.out⟩
            case measure => simp [intOf]; omega
        · rcases unitE_at m n with hu | hu
          · skip
            have hAdd := radd_2 (w1.heap.size + 1) m HOk.out n _ HM0.out.rt
            rw [hu] at hAdd
            have HU := Lib.hid hu
            have HAdd := Lib.hid hAdd
            clear hAdd hu
            go_wp2_with (go_at_call 8; (with_reducible refine HAdd.out.mono ?_); rintro e W3 ⟨rfl, hs⟩)
            have HM := Lib.hid (HM0.out.of hs hlt hB1)
            clear HM0 ck cn HP hs HAdd
            have hMt := HM.out.mt
            have hy := HM.out.act
            have hp0 : Past [w1.heap.size] W3 W3.drew := ⟨rfl, rfl, rfl, Nat.le_refl _, fun _ _ _ => rfl⟩
            have hD := do_any a w1.heap.size m HOk.out 2 n W3.drew hMt.drew (fun wx hx => HE.out wx (HM.out.below.trans ((hp0.trans hx).below HM.out.below.size (by simp; omega))))
            have hOk2 := doM_ok HOk.out 2 n HBn.out.1 HBn.out.2
            have hdE : ((doE m 2 n : Nat) : Int) = 0 := by unfold doE; rw [if_pos rfl, HU.out]; rfl
            have hdM : doM m 2 n = m.unit n := by unfold doM; rw [if_neg (by decide), if_neg (by decide), if_pos rfl]
            rw [hdE, hdM] at hD
            rw [hdM] at hOk2
            have HD := Lib.hid hD
            have HO2 := Lib.hid hOk2
            clear hD hdE hdM hMt hOk2
            obtain ⟨y0, y1⟩ := hy
            refine wp_region_any (by kernel_rfl) ?_
            refine wpAny_take (i := 0) (v := .pointer (some ⟨w1.heap.size, 0, none⟩)) rfl (by kernel_rfl) (by kernel_rfl) (by kernel_rfl) (fun _ _ _ h => h) (Or.inl ⟨by rfl, fun wx => by go_simp⟩) ?_
            refine wpAny_take (i := 3) (v := .int .i64 0) rfl (by kernel_rfl) (by kernel_rfl) (by kernel_rfl) (fun _ _ _ h => h) (Or.inl ⟨by rfl, fun wx => by go_simp⟩) ?_
            refine wpAny_ready (rs := [1]) (by kernel_rfl) (by simp) ?_
            refine AllReady.cons rfl (fun K hK => ?_) AllReady.nil
            go_simp
            refine hK _ _ ?_
            clear hK K
            refine wpAny_ready (rs := [2]) (by kernel_rfl) (by simp) ?_
            refine AllReady.cons rfl (fun K hK => ?_) AllReady.nil
            go_simp
            refine HD.out.mono ?_
            rintro e w4 ⟨rfl, hp4, hm4⟩
            refine hK _ _ ?_
            clear hK K
            have hp34 := hp0.trans hp4
            have hr4 := HM.out.rt.past hp34 (by simp)
            have hb4 := HM.out.below.trans (hp34.below HM.out.below.size (by simp; omega))
            have cA := fun q : Under w4 => all_any w1.heap.size 0 (m.unit n) q.W (hm4.below q.below)
            have cL := fun q : Under w4 => last_any w1.heap.size 0 (m.unit n) q.W (hm4.below q.below)
            have r0 := Under.cell hr4.pa
            have r1 := Under.cell hr4.va
            have r2 := Under.cell hr4.ua
            have r3 := Under.cell hr4.pl
            have r4 := Under.cell hr4.vl
            have r5 := Under.cell hr4.ul
            have HF := Lib.hid (And.intro hm4 (And.intro hr4 hb4))
            have CA := Lib.hid cA
            have CL := Lib.hid cL
            clear y0 y1 hp34 hp4 hp0 hm4 hr4 hb4 HD HM cA cL
            refine wpAny_head (C := fun w' => ∃ q : Under w4, w' = q.W) (g := 0) [false, false, false, false, true, true, true, true, true, true, true, true, true, true, true, true, true, true, true, true, true, true, true, true, true] (by kernel_rfl) ⟨⟨_, Below.refl _ _⟩, rfl⟩ ?_
            simp only [sel, setAll]
            repeat (quiet_step ((first
              | (go_at_call 11; (with_reducible refine under_call (CA.out _)))
              | (go_at_call 12; (with_reducible refine under_call (CL.out _)))
              | (go_at_call 10; (with_reducible refine under_call (of_any _ _ _ _))))))
            refine wpQuiet_nil ?_
            intro w5 hw5
            obtain ⟨q, rfl⟩ := hw5
            refine wpAny_done (by kernel_rfl) ?_ _
            have hfin : ActsOk w w1.heap.size (m.unit n) q.W := ⟨HO2.out, HF.out.1.below q.below, HF.out.2.1.below q.below, below_step HF.out.2.2 q.below, hB1⟩
            have HFin := Lib.hid hfin
            clear hfin CA CL HF HO2 r0 r1 r2 r3 r4 r5 e3
            go_wp2
            go_roundw
            case rel => exact ⟨j + 1, _, hw1, by simp, HFin.out⟩
            case measure => simp [intOf]; omega
          · skip
            have hAdd := radd_2 (w1.heap.size + 1) m HOk.out n _ HM0.out.rt
            rw [hu] at hAdd
            have HU := Lib.hid hu
            have HAdd := Lib.hid hAdd
            clear hAdd hu
            go_wp2_with (go_at_call 8; (with_reducible refine HAdd.out.mono ?_); rintro e W3 ⟨rfl, hs⟩)
            have HM := Lib.hid (HM0.out.of hs hlt hB1)
            clear HM0 ck cn HP hs HAdd
            have hMt := HM.out.mt
            have hy := HM.out.act
            have hp0 : Past [w1.heap.size] W3 W3.drew := ⟨rfl, rfl, rfl, Nat.le_refl _, fun _ _ _ => rfl⟩
            have hD := do_any a w1.heap.size m HOk.out 2 n W3.drew hMt.drew (fun wx hx => HE.out wx (HM.out.below.trans ((hp0.trans hx).below HM.out.below.size (by simp; omega))))
            have hOk2 := doM_ok HOk.out 2 n HBn.out.1 HBn.out.2
            have hdE : ((doE m 2 n : Nat) : Int) = 11 := by unfold doE; rw [if_pos rfl, HU.out]; rfl
            have hdM : doM m 2 n = m.unit n := by unfold doM; rw [if_neg (by decide), if_neg (by decide), if_pos rfl]
            rw [hdE, hdM] at hD
            rw [hdM] at hOk2
            have HD := Lib.hid hD
            have HO2 := Lib.hid hOk2
            clear hD hdE hdM hMt hOk2
            obtain ⟨y0, y1⟩ := hy
            refine wp_region_any (by kernel_rfl) ?_
            refine wpAny_take (i := 0) (v := .pointer (some ⟨w1.heap.size, 0, none⟩)) rfl (by kernel_rfl) (by kernel_rfl) (by kernel_rfl) (fun _ _ _ h => h) (Or.inl ⟨by rfl, fun wx => by go_simp⟩) ?_
            refine wpAny_take (i := 3) (v := .int .i64 11) rfl (by kernel_rfl) (by kernel_rfl) (by kernel_rfl) (fun _ _ _ h => h) (Or.inl ⟨by rfl, fun wx => by go_simp⟩) ?_
            refine wpAny_ready (rs := [1]) (by kernel_rfl) (by simp) ?_
            refine AllReady.cons rfl (fun K hK => ?_) AllReady.nil
            go_simp
            refine hK _ _ ?_
            clear hK K
            refine wpAny_ready (rs := [2]) (by kernel_rfl) (by simp) ?_
            refine AllReady.cons rfl (fun K hK => ?_) AllReady.nil
            go_simp
            refine HD.out.mono ?_
            rintro e w4 ⟨rfl, hp4, hm4⟩
            refine hK _ _ ?_
            clear hK K
            have hp34 := hp0.trans hp4
            have hr4 := HM.out.rt.past hp34 (by simp)
            have hb4 := HM.out.below.trans (hp34.below HM.out.below.size (by simp; omega))
            have cA := fun q : Under w4 => all_any w1.heap.size 0 (m.unit n) q.W (hm4.below q.below)
            have cL := fun q : Under w4 => last_any w1.heap.size 0 (m.unit n) q.W (hm4.below q.below)
            have r0 := Under.cell hr4.pa
            have r1 := Under.cell hr4.va
            have r2 := Under.cell hr4.ua
            have r3 := Under.cell hr4.pl
            have r4 := Under.cell hr4.vl
            have r5 := Under.cell hr4.ul
            have HF := Lib.hid (And.intro hm4 (And.intro hr4 hb4))
            have CA := Lib.hid cA
            have CL := Lib.hid cL
            clear y0 y1 hp34 hp4 hp0 hm4 hr4 hb4 HD HM cA cL
            refine wpAny_head (C := fun w' => ∃ q : Under w4, w' = q.W) (g := 0) [false, false, false, false, true, true, true, true, true, true, true, true, true, true, true, true, true, true, true, true, true, true, true, true, true] (by kernel_rfl) ⟨⟨_, Below.refl _ _⟩, rfl⟩ ?_
            simp only [sel, setAll]
            repeat (quiet_step ((first
              | (go_at_call 11; (with_reducible refine under_call (CA.out _)))
              | (go_at_call 12; (with_reducible refine under_call (CL.out _)))
              | (go_at_call 10; (with_reducible refine under_call (of_any _ _ _ _))))))
            refine wpQuiet_nil ?_
            intro w5 hw5
            obtain ⟨q, rfl⟩ := hw5
            refine wpAny_done (by kernel_rfl) ?_ _
            have hfin : ActsOk w w1.heap.size (m.unit n) q.W := ⟨HO2.out, HF.out.1.below q.below, HF.out.2.1.below q.below, below_step HF.out.2.2 q.below, hB1⟩
            have HFin := Lib.hid hfin
            clear hfin CA CL HF HO2 r0 r1 r2 r3 r4 r5 e3
            go_wp2
            go_roundw
            case rel => exact ⟨j + 1, _, hw1, by simp, HFin.out⟩
            case measure => simp [intOf]; omega
        · skip
          have HM := Lib.hid (Mid.reset HP.out 3 n)
          obtain ⟨q0, q1, q2, q3, q4, q5, q6, qf⟩ := HP.out.rt
          go_wp2
          generalize (((wr.setCell ⟨w1.heap.size + 1, 3, none⟩ (.int .i64 0)).setCell ⟨w1.heap.size + 1, 4, none⟩ (.int .i64 0)).setCell ⟨w1.heap.size + 1, 5, none⟩ (.int .i64 0)).alloc (.cells #[.int .i64 3, .int .i64 n] 35) = W3 at HM ⊢
          clear HM0 ck cn HP q0 q1 q2 q3 q4 q5 q6 qf
          have hMt := HM.out.mt
          have hy := HM.out.act
          have hp0 : Past [w1.heap.size] W3 W3.drew := ⟨rfl, rfl, rfl, Nat.le_refl _, fun _ _ _ => rfl⟩
          have hD := do_any a w1.heap.size m HOk.out 3 n W3.drew hMt.drew (fun wx hx => HE.out wx (HM.out.below.trans ((hp0.trans hx).below HM.out.below.size (by simp; omega))))
          have hOk2 := doM_ok HOk.out 3 n HBn.out.1 HBn.out.2
          have hdE : ((doE m 3 n : Nat) : Int) = 0 := by unfold doE; rw [if_neg (by decide)]; rfl
          have hdM : doM m 3 n = m.reset := by unfold doM; rw [if_neg (by decide), if_neg (by decide), if_neg (by decide), if_pos rfl]
          rw [hdE, hdM] at hD
          rw [hdM] at hOk2
          have HD := Lib.hid hD
          have HO2 := Lib.hid hOk2
          clear hD hdE hdM hMt hOk2
          obtain ⟨y0, y1⟩ := hy
          refine wp_region_any (by kernel_rfl) ?_
          refine wpAny_take (i := 0) (v := .pointer (some ⟨w1.heap.size, 0, none⟩)) rfl (by kernel_rfl) (by kernel_rfl) (by kernel_rfl) (fun _ _ _ h => h) (Or.inl ⟨by rfl, fun wx => by go_simp⟩) ?_
          refine wpAny_take (i := 3) (v := .int .i64 0) rfl (by kernel_rfl) (by kernel_rfl) (by kernel_rfl) (fun _ _ _ h => h) (Or.inl ⟨by rfl, fun wx => by go_simp⟩) ?_
          refine wpAny_ready (rs := [1]) (by kernel_rfl) (by simp) ?_
          refine AllReady.cons rfl (fun K hK => ?_) AllReady.nil
          go_simp
          refine hK _ _ ?_
          clear hK K
          refine wpAny_ready (rs := [2]) (by kernel_rfl) (by simp) ?_
          refine AllReady.cons rfl (fun K hK => ?_) AllReady.nil
          go_simp
          refine HD.out.mono ?_
          rintro e w4 ⟨rfl, hp4, hm4⟩
          refine hK _ _ ?_
          clear hK K
          have hp34 := hp0.trans hp4
          have hr4 := HM.out.rt.past hp34 (by simp)
          have hb4 := HM.out.below.trans (hp34.below HM.out.below.size (by simp; omega))
          have cA := fun q : Under w4 => all_any w1.heap.size 0 (m.reset) q.W (hm4.below q.below)
          have cL := fun q : Under w4 => last_any w1.heap.size 0 (m.reset) q.W (hm4.below q.below)
          have r0 := Under.cell hr4.pa
          have r1 := Under.cell hr4.va
          have r2 := Under.cell hr4.ua
          have r3 := Under.cell hr4.pl
          have r4 := Under.cell hr4.vl
          have r5 := Under.cell hr4.ul
          have HF := Lib.hid (And.intro hm4 (And.intro hr4 hb4))
          have CA := Lib.hid cA
          have CL := Lib.hid cL
          clear y0 y1 hp34 hp4 hp0 hm4 hr4 hb4 HD HM cA cL
          refine wpAny_head (C := fun w' => ∃ q : Under w4, w' = q.W) (g := 0) [false, false, false, false, true, true, true, true, true, true, true, true, true, true, true, true, true, true, true, true, true, true, true, true, true] (by kernel_rfl) ⟨⟨_, Below.refl _ _⟩, rfl⟩ ?_
          simp only [sel, setAll]
          repeat (quiet_step ((first
            | (go_at_call 11; (with_reducible refine under_call (CA.out _)))
            | (go_at_call 12; (with_reducible refine under_call (CL.out _)))
            | (go_at_call 10; (with_reducible refine under_call (of_any _ _ _ _))))))
          refine wpQuiet_nil ?_
          intro w5 hw5
          obtain ⟨q, rfl⟩ := hw5
          refine wpAny_done (by kernel_rfl) ?_ _
          have hfin : ActsOk w w1.heap.size (m.reset) q.W := ⟨HO2.out, HF.out.1.below q.below, HF.out.2.1.below q.below, below_step HF.out.2.2 q.below, hB1⟩
          have HFin := Lib.hid hfin
          clear hfin CA CL HF HO2 r0 r1 r2 r3 r4 r5 e3
          go_wp2
          go_roundw
          case rel => exact ⟨j + 1, _, hw1, by simp, HFin.out⟩
          case measure => simp [intOf]; omega
        · rcases (show n < -1 ∨ n = -1 ∨ 0 ≤ n by omega) with g1 | rfl | g1
          · skip
            have HM := Lib.hid (Mid.limit HP.out 4 n (-1) (by rw [if_neg (by omega)]))
            obtain ⟨q0, q1, q2, q3, q4, q5, q6, qf⟩ := HP.out.rt
            go_wp2
            generalize (wr.setCell ⟨w1.heap.size + 1, 6, none⟩ (.int .i64 (-1))).alloc (.cells #[.int .i64 4, .int .i64 n] 35) = W3 at HM ⊢
            clear HM0 ck cn HP q0 q1 q2 q3 q4 q5 q6 qf
            have hMt := HM.out.mt
            have hy := HM.out.act
            have hp0 : Past [w1.heap.size] W3 W3.drew := ⟨rfl, rfl, rfl, Nat.le_refl _, fun _ _ _ => rfl⟩
            have hD := do_any a w1.heap.size m HOk.out 4 n W3.drew hMt.drew (fun wx hx => HE.out wx (HM.out.below.trans ((hp0.trans hx).below HM.out.below.size (by simp; omega))))
            have hOk2 := doM_ok HOk.out 4 n HBn.out.1 HBn.out.2
            have hdE : ((doE m 4 n : Nat) : Int) = 0 := by unfold doE; rw [if_neg (by decide)]; rfl
            have hdM : doM m 4 n = m.limit n := by unfold doM; rw [if_neg (by decide), if_neg (by decide), if_neg (by decide), if_neg (by decide), if_pos rfl]
            rw [hdE, hdM] at hD
            rw [hdM] at hOk2
            have HD := Lib.hid hD
            have HO2 := Lib.hid hOk2
            clear hD hdE hdM hMt hOk2
            obtain ⟨y0, y1⟩ := hy
            refine wp_region_any (by kernel_rfl) ?_
            refine wpAny_take (i := 0) (v := .pointer (some ⟨w1.heap.size, 0, none⟩)) rfl (by kernel_rfl) (by kernel_rfl) (by kernel_rfl) (fun _ _ _ h => h) (Or.inl ⟨by rfl, fun wx => by go_simp⟩) ?_
            refine wpAny_take (i := 3) (v := .int .i64 0) rfl (by kernel_rfl) (by kernel_rfl) (by kernel_rfl) (fun _ _ _ h => h) (Or.inl ⟨by rfl, fun wx => by go_simp⟩) ?_
            refine wpAny_ready (rs := [1]) (by kernel_rfl) (by simp) ?_
            refine AllReady.cons rfl (fun K hK => ?_) AllReady.nil
            go_simp
            refine hK _ _ ?_
            clear hK K
            refine wpAny_ready (rs := [2]) (by kernel_rfl) (by simp) ?_
            refine AllReady.cons rfl (fun K hK => ?_) AllReady.nil
            go_simp
            refine HD.out.mono ?_
            rintro e w4 ⟨rfl, hp4, hm4⟩
            refine hK _ _ ?_
            clear hK K
            have hp34 := hp0.trans hp4
            have hr4 := HM.out.rt.past hp34 (by simp)
            have hb4 := HM.out.below.trans (hp34.below HM.out.below.size (by simp; omega))
            have cA := fun q : Under w4 => all_any w1.heap.size 0 (m.limit n) q.W (hm4.below q.below)
            have cL := fun q : Under w4 => last_any w1.heap.size 0 (m.limit n) q.W (hm4.below q.below)
            have r0 := Under.cell hr4.pa
            have r1 := Under.cell hr4.va
            have r2 := Under.cell hr4.ua
            have r3 := Under.cell hr4.pl
            have r4 := Under.cell hr4.vl
            have r5 := Under.cell hr4.ul
            have HF := Lib.hid (And.intro hm4 (And.intro hr4 hb4))
            have CA := Lib.hid cA
            have CL := Lib.hid cL
            clear y0 y1 hp34 hp4 hp0 hm4 hr4 hb4 HD HM cA cL
            refine wpAny_head (C := fun w' => ∃ q : Under w4, w' = q.W) (g := 0) [false, false, false, false, true, true, true, true, true, true, true, true, true, true, true, true, true, true, true, true, true, true, true, true, true] (by kernel_rfl) ⟨⟨_, Below.refl _ _⟩, rfl⟩ ?_
            simp only [sel, setAll]
            repeat (quiet_step ((first
              | (go_at_call 11; (with_reducible refine under_call (CA.out _)))
              | (go_at_call 12; (with_reducible refine under_call (CL.out _)))
              | (go_at_call 10; (with_reducible refine under_call (of_any _ _ _ _))))))
            refine wpQuiet_nil ?_
            intro w5 hw5
            obtain ⟨q, rfl⟩ := hw5
            refine wpAny_done (by kernel_rfl) ?_ _
            have hfin : ActsOk w w1.heap.size (m.limit n) q.W := ⟨HO2.out, HF.out.1.below q.below, HF.out.2.1.below q.below, below_step HF.out.2.2 q.below, hB1⟩
            have HFin := Lib.hid hfin
            clear hfin CA CL HF HO2 r0 r1 r2 r3 r4 r5 e3
            go_wp2
            go_roundw
            case rel => exact ⟨j + 1, _, hw1, by simp, HFin.out⟩
            case measure => simp [intOf]; omega
          · skip
            have HM := Lib.hid (Mid.limit HP.out 4 (-1) (-1) (by decide))
            obtain ⟨q0, q1, q2, q3, q4, q5, q6, qf⟩ := HP.out.rt
            go_wp2
            generalize (wr.setCell ⟨w1.heap.size + 1, 6, none⟩ (.int .i64 (-1))).alloc (.cells #[.int .i64 4, .int .i64 (-1)] 35) = W3 at HM ⊢
            clear HM0 ck cn HP q0 q1 q2 q3 q4 q5 q6 qf
            have hMt := HM.out.mt
            have hy := HM.out.act
            have hp0 : Past [w1.heap.size] W3 W3.drew := ⟨rfl, rfl, rfl, Nat.le_refl _, fun _ _ _ => rfl⟩
            have hD := do_any a w1.heap.size m HOk.out 4 (-1) W3.drew hMt.drew (fun wx hx => HE.out wx (HM.out.below.trans ((hp0.trans hx).below HM.out.below.size (by simp; omega))))
            have hOk2 := doM_ok HOk.out 4 (-1) HBn.out.1 HBn.out.2
            have hdE : ((doE m 4 (-1) : Nat) : Int) = 0 := by unfold doE; rw [if_neg (by decide)]; rfl
            have hdM : doM m 4 (-1) = m.limit (-1) := by unfold doM; rw [if_neg (by decide), if_neg (by decide), if_neg (by decide), if_neg (by decide), if_pos rfl]
            rw [hdE, hdM] at hD
            rw [hdM] at hOk2
            have HD := Lib.hid hD
            have HO2 := Lib.hid hOk2
            clear hD hdE hdM hMt hOk2
            obtain ⟨y0, y1⟩ := hy
            refine wp_region_any (by kernel_rfl) ?_
            refine wpAny_take (i := 0) (v := .pointer (some ⟨w1.heap.size, 0, none⟩)) rfl (by kernel_rfl) (by kernel_rfl) (by kernel_rfl) (fun _ _ _ h => h) (Or.inl ⟨by rfl, fun wx => by go_simp⟩) ?_
            refine wpAny_take (i := 3) (v := .int .i64 0) rfl (by kernel_rfl) (by kernel_rfl) (by kernel_rfl) (fun _ _ _ h => h) (Or.inl ⟨by rfl, fun wx => by go_simp⟩) ?_
            refine wpAny_ready (rs := [1]) (by kernel_rfl) (by simp) ?_
            refine AllReady.cons rfl (fun K hK => ?_) AllReady.nil
            go_simp
            refine hK _ _ ?_
            clear hK K
            refine wpAny_ready (rs := [2]) (by kernel_rfl) (by simp) ?_
            refine AllReady.cons rfl (fun K hK => ?_) AllReady.nil
            go_simp
            refine HD.out.mono ?_
            rintro e w4 ⟨rfl, hp4, hm4⟩
            refine hK _ _ ?_
            clear hK K
            have hp34 := hp0.trans hp4
            have hr4 := HM.out.rt.past hp34 (by simp)
            have hb4 := HM.out.below.trans (hp34.below HM.out.below.size (by simp; omega))
            have cA := fun q : Under w4 => all_any w1.heap.size 0 (m.limit (-1)) q.W (hm4.below q.below)
            have cL := fun q : Under w4 => last_any w1.heap.size 0 (m.limit (-1)) q.W (hm4.below q.below)
            have r0 := Under.cell hr4.pa
            have r1 := Under.cell hr4.va
            have r2 := Under.cell hr4.ua
            have r3 := Under.cell hr4.pl
            have r4 := Under.cell hr4.vl
            have r5 := Under.cell hr4.ul
            have HF := Lib.hid (And.intro hm4 (And.intro hr4 hb4))
            have CA := Lib.hid cA
            have CL := Lib.hid cL
            clear y0 y1 hp34 hp4 hp0 hm4 hr4 hb4 HD HM cA cL
            refine wpAny_head (C := fun w' => ∃ q : Under w4, w' = q.W) (g := 0) [false, false, false, false, true, true, true, true, true, true, true, true, true, true, true, true, true, true, true, true, true, true, true, true, true] (by kernel_rfl) ⟨⟨_, Below.refl _ _⟩, rfl⟩ ?_
            simp only [sel, setAll]
            repeat (quiet_step ((first
              | (go_at_call 11; (with_reducible refine under_call (CA.out _)))
              | (go_at_call 12; (with_reducible refine under_call (CL.out _)))
              | (go_at_call 10; (with_reducible refine under_call (of_any _ _ _ _))))))
            refine wpQuiet_nil ?_
            intro w5 hw5
            obtain ⟨q, rfl⟩ := hw5
            refine wpAny_done (by kernel_rfl) ?_ _
            have hfin : ActsOk w w1.heap.size (m.limit (-1)) q.W := ⟨HO2.out, HF.out.1.below q.below, HF.out.2.1.below q.below, below_step HF.out.2.2 q.below, hB1⟩
            have HFin := Lib.hid hfin
            clear hfin CA CL HF HO2 r0 r1 r2 r3 r4 r5 e3
            go_wp2
            go_roundw
            case rel => exact ⟨j + 1, _, hw1, by simp, HFin.out⟩
            case measure => simp [intOf]; omega
          · skip
            have HM := Lib.hid (Mid.limit HP.out 4 n (n) (by rw [if_pos g1]))
            obtain ⟨q0, q1, q2, q3, q4, q5, q6, qf⟩ := HP.out.rt
            go_wp2
            generalize (wr.setCell ⟨w1.heap.size + 1, 6, none⟩ (.int .i64 (n))).alloc (.cells #[.int .i64 4, .int .i64 n] 35) = W3 at HM ⊢
            clear HM0 ck cn HP q0 q1 q2 q3 q4 q5 q6 qf
            have hMt := HM.out.mt
            have hy := HM.out.act
            have hp0 : Past [w1.heap.size] W3 W3.drew := ⟨rfl, rfl, rfl, Nat.le_refl _, fun _ _ _ => rfl⟩
            have hD := do_any a w1.heap.size m HOk.out 4 n W3.drew hMt.drew (fun wx hx => HE.out wx (HM.out.below.trans ((hp0.trans hx).below HM.out.below.size (by simp; omega))))
            have hOk2 := doM_ok HOk.out 4 n HBn.out.1 HBn.out.2
            have hdE : ((doE m 4 n : Nat) : Int) = 0 := by unfold doE; rw [if_neg (by decide)]; rfl
            have hdM : doM m 4 n = m.limit n := by unfold doM; rw [if_neg (by decide), if_neg (by decide), if_neg (by decide), if_neg (by decide), if_pos rfl]
            rw [hdE, hdM] at hD
            rw [hdM] at hOk2
            have HD := Lib.hid hD
            have HO2 := Lib.hid hOk2
            clear hD hdE hdM hMt hOk2
            obtain ⟨y0, y1⟩ := hy
            refine wp_region_any (by kernel_rfl) ?_
            refine wpAny_take (i := 0) (v := .pointer (some ⟨w1.heap.size, 0, none⟩)) rfl (by kernel_rfl) (by kernel_rfl) (by kernel_rfl) (fun _ _ _ h => h) (Or.inl ⟨by rfl, fun wx => by go_simp⟩) ?_
            refine wpAny_take (i := 3) (v := .int .i64 0) rfl (by kernel_rfl) (by kernel_rfl) (by kernel_rfl) (fun _ _ _ h => h) (Or.inl ⟨by rfl, fun wx => by go_simp⟩) ?_
            refine wpAny_ready (rs := [1]) (by kernel_rfl) (by simp) ?_
            refine AllReady.cons rfl (fun K hK => ?_) AllReady.nil
            go_simp
            refine hK _ _ ?_
            clear hK K
            refine wpAny_ready (rs := [2]) (by kernel_rfl) (by simp) ?_
            refine AllReady.cons rfl (fun K hK => ?_) AllReady.nil
            go_simp
            refine HD.out.mono ?_
            rintro e w4 ⟨rfl, hp4, hm4⟩
            refine hK _ _ ?_
            clear hK K
            have hp34 := hp0.trans hp4
            have hr4 := HM.out.rt.past hp34 (by simp)
            have hb4 := HM.out.below.trans (hp34.below HM.out.below.size (by simp; omega))
            have cA := fun q : Under w4 => all_any w1.heap.size 0 (m.limit n) q.W (hm4.below q.below)
            have cL := fun q : Under w4 => last_any w1.heap.size 0 (m.limit n) q.W (hm4.below q.below)
            have r0 := Under.cell hr4.pa
            have r1 := Under.cell hr4.va
            have r2 := Under.cell hr4.ua
            have r3 := Under.cell hr4.pl
            have r4 := Under.cell hr4.vl
            have r5 := Under.cell hr4.ul
            have HF := Lib.hid (And.intro hm4 (And.intro hr4 hb4))
            have CA := Lib.hid cA
            have CL := Lib.hid cL
            clear y0 y1 hp34 hp4 hp0 hm4 hr4 hb4 HD HM cA cL
            refine wpAny_head (C := fun w' => ∃ q : Under w4, w' = q.W) (g := 0) [false, false, false, false, true, true, true, true, true, true, true, true, true, true, true, true, true, true, true, true, true, true, true, true, true] (by kernel_rfl) ⟨⟨_, Below.refl _ _⟩, rfl⟩ ?_
            simp only [sel, setAll]
            repeat (quiet_step ((first
              | (go_at_call 11; (with_reducible refine under_call (CA.out _)))
              | (go_at_call 12; (with_reducible refine under_call (CL.out _)))
              | (go_at_call 10; (with_reducible refine under_call (of_any _ _ _ _))))))
            refine wpQuiet_nil ?_
            intro w5 hw5
            obtain ⟨q, rfl⟩ := hw5
            refine wpAny_done (by kernel_rfl) ?_ _
            have hfin : ActsOk w w1.heap.size (m.limit n) q.W := ⟨HO2.out, HF.out.1.below q.below, HF.out.2.1.below q.below, below_step HF.out.2.2 q.below, hB1⟩
            have HFin := Lib.hid hfin
            clear hfin CA CL HF HO2 r0 r1 r2 r3 r4 r5 e3
            go_wp2
            go_roundw
            case rel => exact ⟨j + 1, _, hw1, by simp, HFin.out⟩
            case measure => simp [intOf]; omega
    · obtain rfl : j = la := by omega
      have hb := hp.below
      clear hp HA e3
      go_wp2_with (go_at_call 13; refine (visit_nil _).mono ?_; rintro e w5 ⟨rfl, hb5⟩)
      go_ret
      exact ⟨rfl, below_step hb hb5⟩
theorem acts_any (s : Option Addr) (la ca : Nat) (kz nz : Nat → Int) (w : World) (a : String → Addr) (hE : ∀ w', Below w.heap.size w w' → ErrsOk names a w')
    (hA : ∀ j, j < la → ∃ x, s = some x ∧ (∀ W, Below w.heap.size w W → W.cell? (x.add (j * 2)) = some (.int .i64 (kz j)) ∧ W.cell? ⟨(x.add (j * 2)).block, (x.add (j * 2)).off + 1, none⟩ = some (.int .i64 (nz j))) ∧ -9223372036854775808 ≤ nz j ∧ nz j ≤ 9223372036854775807) :
    Calls Tryd.prog 3 #[.slice s la ca] w fun e w' => e = .returned (.bool true) ∧ Below w.heap.size w w' := by
  rcases Nat.lt_or_ge 60 la with h | h
  · exact acts_many s la ca h w a (hE w (Below.refl _ _))
  · exact acts_few s la ca kz nz h w a hE hA
end Go.Proofs.YtfabhnbiijnohaaDoor.meter
