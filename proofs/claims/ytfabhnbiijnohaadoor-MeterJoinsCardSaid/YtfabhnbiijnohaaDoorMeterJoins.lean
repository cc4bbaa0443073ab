/- MeterJoins: the walk. -/
import Derived.Test.YtfabhnbiijnohaaDoorMeterDo
namespace Go.Proofs.YtfabhnbiijnohaaDoor.meter
open Go.RowKit errs under trap tail
set_option linter.unusedSimpArgs false
set_option linter.unusedVariables false

/-- behind j acts: the meter that does what both do has the counts of both together -/
structure JInv (j : Nat) (x y b : Mt) : Prop where
  okx : x.Ok
  oky : y.Ok
  okb : b.Ok
  onx : x.on = false
  ony : y.on = false
  onb : b.on = false
  pa : b.pa = x.pa + y.pa
  va : b.va = x.va + y.va
  ua : b.ua = x.ua + y.ua
  pl : b.pl = b.pa
  vl : b.vl = b.va
  ul : b.ul = b.ua
  mp : b.pa ≤ 1048576 * j
  mv : b.va ≤ 1048576 * j
  mu : b.ua ≤ 1048576 * j
theorem JInv.start : JInv 0 Mt.zero Mt.zero Mt.zero := ⟨Mt.zero_ok, Mt.zero_ok, Mt.zero_ok, rfl, rfl, rfl, rfl, rfl, rfl, rfl, rfl, rfl, by decide, by decide, by decide⟩
theorem JInv.swap {j : Nat} {x y b : Mt} (h : JInv j x y b) : JInv j y x b :=
  ⟨h.oky, h.okx, h.okb, h.ony, h.onx, h.onb, by rw [h.pa, Int.add_comm], by rw [h.va, Int.add_comm], by rw [h.ua, Int.add_comm], h.pl, h.vl, h.ul, h.mp, h.mv, h.mu⟩
theorem JInv.mono {j : Nat} {x y b : Mt} (h : JInv j x y b) : JInv (j + 1) x y b := by
  obtain ⟨okx, oky, okb, onx, ony, onb, pa, va, ua, pl, vl, ul, mp, mv, mu⟩ := h
  exact ⟨okx, oky, okb, onx, ony, onb, pa, va, ua, pl, vl, ul, by omega, by omega, by omega⟩
theorem JInv.probes {j : Nat} {x y b : Mt} (h : JInv j x y b) (hj : j < 80) (c : Int) (c0 : 0 ≤ c) (c1 : c ≤ 1048576) : JInv (j + 1) (x.probes c) y (b.probes c) := by
  have o1 := h.okx.probes c
  have o2 := h.okb.probes c
  obtain ⟨okx, oky, okb, onx, ony, onb, pa, va, ua, pl, vl, ul, mp, mv, mu⟩ := h
  have a1 := okx.pa0
  have a2 := oky.pa0
  have e1 : (x.probes c).pa = x.pa + c := sm_add a1 c0 (by omega)
  have e2 : (b.probes c).pa = b.pa + c := sm_add (by omega) c0 (by omega)
  have e3 : (b.probes c).pl = b.pl + c := sm_add (by omega) c0 (by omega)
  exact ⟨o1, oky, o2, onx, ony, onb, by omega, va, ua, by omega, vl, ul, by omega, by show b.va ≤ _; omega, by show b.ua ≤ _; omega⟩
theorem JInv.visits {j : Nat} {x y b : Mt} (h : JInv j x y b) (hj : j < 80) (c : Int) (c0 : 0 ≤ c) (c1 : c ≤ 1048576) : JInv (j + 1) (x.visits c) y (b.visits c) := by
  have o1 := h.okx.visits c
  have o2 := h.okb.visits c
  obtain ⟨okx, oky, okb, onx, ony, onb, pa, va, ua, pl, vl, ul, mp, mv, mu⟩ := h
  have a1 := okx.va0
  have a2 := oky.va0
  have e1 : (x.visits c).va = x.va + c := sm_add a1 c0 (by omega)
  have e2 : (b.visits c).va = b.va + c := sm_add (by omega) c0 (by omega)
  have e3 : (b.visits c).vl = b.vl + c := sm_add (by omega) c0 (by omega)
  exact ⟨o1, oky, o2, onx, ony, onb, pa, by omega, ua, pl, by omega, ul, by show b.pa ≤ _; omega, by omega, by show b.ua ≤ _; omega⟩
theorem unit_off {m : Mt} (h : m.on = false) (n : Int) : m.unit n = if n < 1 then m else m.units n := by
  have e : m.past n = false := by unfold Mt.past; rw [h]; rfl
  unfold Mt.unit; rw [e]; rfl
theorem JInv.unit {j : Nat} {x y b : Mt} (h : JInv j x y b) (hj : j < 80) (n : Int) (hn : n < 1048576) : JInv (j + 1) (x.unit n) y (b.unit n) := by
  rw [unit_off h.onx, unit_off h.onb]
  by_cases h1 : n < 1
  · rw [if_pos h1, if_pos h1]; exact h.mono
  · rw [if_neg h1, if_neg h1]
    have o1 := h.okx.units n
    have o2 := h.okb.units n
    obtain ⟨okx, oky, okb, onx, ony, onb, pa, va, ua, pl, vl, ul, mp, mv, mu⟩ := h
    have a1 := okx.ua0
    have a2 := oky.ua0
    have e1 : (x.units n).ua = x.ua + n := sm_add a1 (by omega) (by omega)
    have e2 : (b.units n).ua = b.ua + n := sm_add (by omega) (by omega) (by omega)
    have e3 : (b.units n).ul = b.ul + n := sm_add (by omega) (by omega) (by omega)
    exact ⟨o1, oky, o2, onx, ony, onb, pa, va, by omega, pl, vl, by omega, by show b.pa ≤ _; omega, by show b.va ≤ _; omega, by omega⟩
theorem JInv.act {j : Nat} {x y b : Mt} (h : JInv j x y b) (hj : j < 80) (k n : Int) (hk : k < 3) (hn : n < 1048576) : JInv (j + 1) (doM x k n) y (doM b k n) := by
  have hv := visN_at n
  unfold doM
  by_cases k0 : k = 0
  · rw [if_pos k0, if_pos k0]; exact h.probes hj _ (by omega) (by omega)
  by_cases k1 : k = 1
  · rw [if_neg k0, if_neg k0, if_pos k1, if_pos k1]; exact h.visits hj _ (by omega) (by omega)
  by_cases k2 : k = 2
  · rw [if_neg k0, if_neg k0, if_neg k1, if_neg k1, if_pos k2, if_pos k2]; exact h.unit hj n hn
  rw [if_neg k0, if_neg k0, if_neg k1, if_neg k1, if_neg k2, if_neg k2, if_neg (by omega), if_neg (by omega), if_neg (by omega), if_neg (by omega)]
  exact h.mono
/-- the state behind j acts: three meters in blocks X, X + 1, X + 2 -/
structure JoinOk (w : World) (X j : Nat) (x y b : Mt) (W : World) : Prop where
  inv : JInv j x y b
  mx : MAt X 0 x W
  my : MAt (X + 1) 0 y W
  mb : MAt (X + 2) 0 b W
  below : Below w.heap.size w W
theorem JoinOk.step {w W W' : World} {X j : Nat} {x y b : Mt} (h : JoinOk w X j x y b W) (hb : Below W.heap.size W W') : JoinOk w X j x y b W' := ⟨h.inv, h.mx.below hb, h.my.below hb, h.mb.below hb, below_step h.below hb⟩
abbrev zeroM : Obj := .cells #[.int .i64 0, .int .i64 0, .int .i64 0, .int .i64 0, .int .i64 0, .int .i64 0, .int .i64 0, .bool false] 28
theorem JoinOk.start {w w1 : World} (hb : Below w.heap.size w w1) : JoinOk w w1.heap.size 0 Mt.zero Mt.zero Mt.zero (((w1.alloc zeroM).alloc zeroM).alloc zeroM) := by
  have h1 := ((MAt.new w1).below (new_block _ zeroM)).below (new_block _ zeroM)
  have h2 := (MAt.new (w1.alloc zeroM)).below (new_block _ zeroM)
  have h3 := MAt.new ((w1.alloc zeroM).alloc zeroM)
  rw [World.size_alloc] at h2
  rw [World.size_alloc, World.size_alloc] at h3
  exact ⟨JInv.start, h1, h2, h3, below_step (below_step hb (box_below _ _ _)) (new_block _ _)⟩
theorem joins_many (s t : Option Addr) (la ca lb cb : Nat) (h40 : 40 < la ∨ 40 < lb) (w : World) (a : String → Addr) (hE : ErrsOk names a w) :
    Calls Tryd.prog 6 #[.slice s la ca, .slice t lb cb] w fun e w' => e = .returned (.bool true) ∧ Below w.heap.size w w' := by
  have hA := alive_any a w (hE.at gErrLimit (nm_mem (i := 10) (by decide)))
  by_cases h : 40 < la
  · have h1 : decide ((40 : Int) < (la : Int)) = true := decide_eq_true (by omega)
    go_enter Tryd.func6, Tryd.ntmps6
    go_wp2_with (go_at_call 7; refine hA.mono ?_; rintro e w1 ⟨rfl, hb1⟩)
    go_ret
    exact ⟨rfl, hb1⟩
  · have h1 : decide ((40 : Int) < (la : Int)) = false := decide_eq_false (by omega)
    have h2 : decide ((40 : Int) < (lb : Int)) = true := decide_eq_true (by omega)
    go_enter Tryd.func6, Tryd.ntmps6
    go_wp2_with (go_at_call 7; refine hA.mono ?_; rintro e w1 ⟨rfl, hb1⟩)
    go_ret
    exact ⟨rfl, hb1⟩
set_option maxHeartbeats 4000000 in
set_option maxRecDepth 100000 in
theorem joins_few (s t : Option Addr) (la ca lb cb : Nat) (kz nz kz' nz' : Nat → Int) (h40 : la ≤ 40) (h40' : lb ≤ 40) (w : World) (a : String → Addr) (hE : ∀ w', Below w.heap.size w w' → ErrsOk names a w')
    (hA : ∀ j, j < la → ∃ x, s = some x ∧ (∀ W, Below w.heap.size w W → W.cell? (x.add (j * 2)) = some (.int .i64 (kz j)) ∧ W.cell? ⟨(x.add (j * 2)).block, (x.add (j * 2)).off + 1, none⟩ = some (.int .i64 (nz j))) ∧ -9223372036854775808 ≤ nz j ∧ nz j ≤ 9223372036854775807)
    (hA' : ∀ j, j < lb → ∃ x, t = some x ∧ (∀ W, Below w.heap.size w W → W.cell? (x.add (j * 2)) = some (.int .i64 (kz' j)) ∧ W.cell? ⟨(x.add (j * 2)).block, (x.add (j * 2)).off + 1, none⟩ = some (.int .i64 (nz' j))) ∧ -9223372036854775808 ≤ nz' j ∧ nz' j ≤ 9223372036854775807) :
    Calls Tryd.prog 6 #[.slice s la ca, .slice t lb cb] w fun e w' => e = .returned (.bool true) ∧ Below w.heap.size w w' := by
  have hAl := alive_any a w ((hE w (Below.refl _ _)).at gErrLimit (nm_mem (i := 10) (by decide)))
  have h1 : decide ((40 : Int) < (la : Int)) = false := decide_eq_false (by omega)
  have h2 : decide ((40 : Int) < (lb : Int)) = false := decide_eq_false (by omega)
  have HE := Lib.hid hE
  have HA := Lib.hid hA
  have HA' := Lib.hid hA'
  clear hE hA hA'
  go_enter Tryd.func6, Tryd.ntmps6
  go_wp2_with (go_at_call 7; refine hAl.mono ?_; rintro e w1 ⟨rfl, hb1⟩)
  have HS := Lib.hid (JoinOk.start hb1)
  have hB1 := hb1.size
  clear hAl hb1
  go_loopw [31] (fun i wr => ∃ (j : Nat) (mx mb : Mt), j ≤ la ∧ i = .int .i64 j ∧ JoinOk w w1.heap.size j mx Mt.zero mb wr) (fun i _ => la - (intOf i).toNat)
  case atStart => exact ⟨0, Mt.zero, Mt.zero, by omega, rfl, HS.out⟩
  case round =>
    obtain ⟨j, mx, mb, hj, rfl, hp⟩ := hrel
    rcases Nat.lt_or_ge j la with hjl | hjl
    · obtain ⟨x, rfl, hcs, bn0, bn1⟩ := HA.out j hjl
      obtain ⟨ck, cn⟩ := hcs _ hp.below
      have hji : (j : Int) < (la : Int) := by omega
      have hw1 : j + 1 ≤ la := by omega
      have hzl := hp.mb.lt
      have HP := Lib.hid hp
      clear hcs hp bn0 bn1
      generalize hgk : kz j = k at *
      generalize hgn : nz j = n at *
      clear hgk hgn
      have HQ := Lib.hid (HP.out.step (new_block wr (.cells #[.int .i64 k, .int .i64 n] 35)))
      by_cases hk : k < 3
      · have dk : decide (k < 3) = true := decide_eq_true hk
        by_cases hn : n < 1048576
        · have dn : decide (n < 1048576) = true := decide_eq_true hn
          have HI := Lib.hid (HP.out.inv.act (by omega) k n hk hn)
          have HD1 := Lib.hid (do_any a w1.heap.size mx HQ.out.inv.okx k n _ HQ.out.mx (fun wx hx => HE.out wx (HQ.out.below.trans (hx.below HQ.out.below.size (by simp; omega)))))
          go_wp2_with (fail)
          refine HD1.out.mono ?_
          rintro e wd ⟨rfl, hp1, hm1⟩
          have kd : wd.cell? ⟨wr.heap.size, 0, none⟩ = some (.int .i64 k) := hp1.cell (by simp) (by simp; omega)
          have nd : wd.cell? ⟨wr.heap.size, 1, none⟩ = some (.int .i64 n) := hp1.cell (by simp) (by simp; omega)
          have hmo := HQ.out.my.past hp1 (by simp)
          have HB1 := Lib.hid (HQ.out.below.trans (hp1.below HQ.out.below.size (by simp; omega)))
          have HD2 := Lib.hid (do_any a (w1.heap.size + 2) mb HQ.out.inv.okb k n wd (HQ.out.mb.past hp1 (by simp)) (fun wx hx => HE.out wx (HB1.out.trans (hx.below HB1.out.size (by simp; omega)))))
          have HM1 := Lib.hid (And.intro hm1 hmo)
          clear hp1 hm1 hmo HD1 HQ HP ck cn
          go_wp2_with (fail)
          refine HD2.out.mono ?_
          rintro e we ⟨rfl, hp2, hm2⟩
          obtain ⟨hm1, hmo⟩ := HM1.out
          have HF := Lib.hid (show JoinOk w w1.heap.size (j + 1) (doM mx k n) Mt.zero (doM mb k n) we from ⟨HI.out, hm1.past hp2 (by simp), hmo.past hp2 (by simp), hm2, HB1.out.trans (hp2.below HB1.out.size (by simp; omega))⟩)
          clear hp2 hm2 hm1 hmo HM1 HD2 HI HB1 kd nd
          go_wp2_with (fail)
          go_roundw
          case rel => exact ⟨j + 1, _, _, hw1, by simp, HF.out⟩
          case measure => simp [intOf]; omega
        · have dn : decide (n < 1048576) = false := decide_eq_false hn
          go_wp2
          go_roundw
          case rel => exact ⟨j + 1, _, _, hw1, by simp, ⟨HQ.out.inv.mono, HQ.out.mx, HQ.out.my, HQ.out.mb, HQ.out.below⟩⟩
          case measure => simp [intOf]; omega
      · have dk : decide (k < 3) = false := decide_eq_false hk
        go_wp2
        go_roundw
        case rel => exact ⟨j + 1, _, _, hw1, by simp, ⟨HQ.out.inv.mono, HQ.out.mx, HQ.out.my, HQ.out.mb, HQ.out.below⟩⟩
        case measure => simp [intOf]; omega
    · have hjla : la = j := by omega
      subst hjla
      have HP0 := Lib.hid hp
      clear hp HA HS hj hjl
      go_wp2_with (fail)
      go_loopw [52] (fun i wr => ∃ (j : Nat) (my mb : Mt), j ≤ lb ∧ i = .int .i64 j ∧ JoinOk w w1.heap.size (la + j) mx my mb wr) (fun i _ => lb - (intOf i).toNat)
      case atStart => exact ⟨0, Mt.zero, mb, by omega, rfl, HP0.out⟩
      case round =>
        clear HP0
        obtain ⟨j, my, mb, hj, rfl, hp⟩ := hrel
        rcases Nat.lt_or_ge j lb with hjl | hjl
        · obtain ⟨x, rfl, hcs, bn0, bn1⟩ := HA'.out j hjl
          obtain ⟨ck, cn⟩ := hcs _ hp.below
          have hji : (j : Int) < (lb : Int) := by omega
          have hw1 : j + 1 ≤ lb := by omega
          have hzl := hp.mb.lt
          have HP := Lib.hid hp
          clear hcs hp bn0 bn1
          generalize hgk : kz' j = k at *
          generalize hgn : nz' j = n at *
          clear hgk hgn
          have HQ := Lib.hid (HP.out.step (new_block wr (.cells #[.int .i64 k, .int .i64 n] 35)))
          by_cases hk : k < 3
          · have dk : decide (k < 3) = true := decide_eq_true hk
            by_cases hn : n < 1048576
            · have dn : decide (n < 1048576) = true := decide_eq_true hn
              have HI := Lib.hid ((HP.out.inv.swap.act (by omega) k n hk hn).swap)
              have HD1 := Lib.hid (do_any a (w1.heap.size + 1) my HQ.out.inv.oky k n _ HQ.out.my (fun wx hx => HE.out wx (HQ.out.below.trans (hx.below HQ.out.below.size (by simp; omega)))))
              go_wp2_with (fail)
              refine HD1.out.mono ?_
              rintro e wd ⟨rfl, hp1, hm1⟩
              have kd : wd.cell? ⟨wr.heap.size, 0, none⟩ = some (.int .i64 k) := hp1.cell (by simp) (by simp; omega)
              have nd : wd.cell? ⟨wr.heap.size, 1, none⟩ = some (.int .i64 n) := hp1.cell (by simp) (by simp; omega)
              have hmo := HQ.out.mx.past hp1 (by simp)
              have HB1 := Lib.hid (HQ.out.below.trans (hp1.below HQ.out.below.size (by simp; omega)))
              have HD2 := Lib.hid (do_any a (w1.heap.size + 2) mb HQ.out.inv.okb k n wd (HQ.out.mb.past hp1 (by simp)) (fun wx hx => HE.out wx (HB1.out.trans (hx.below HB1.out.size (by simp; omega)))))
              have HM1 := Lib.hid (And.intro hm1 hmo)
              clear hp1 hm1 hmo HD1 HQ HP ck cn
              go_wp2_with (fail)
              refine HD2.out.mono ?_
              rintro e we ⟨rfl, hp2, hm2⟩
              obtain ⟨hm1, hmo⟩ := HM1.out
              have HF := Lib.hid (show JoinOk w w1.heap.size ((la + j) + 1) mx (doM my k n) (doM mb k n) we from ⟨HI.out, hmo.past hp2 (by simp), hm1.past hp2 (by simp), hm2, HB1.out.trans (hp2.below HB1.out.size (by simp; omega))⟩)
              clear hp2 hm2 hm1 hmo HM1 HD2 HI HB1 kd nd
              go_wp2_with (fail)
              go_roundw
              case rel => exact ⟨j + 1, _, _, hw1, by simp, HF.out⟩
              case measure => simp [intOf]; omega
            · have dn : decide (n < 1048576) = false := decide_eq_false hn
              go_wp2
              go_roundw
              case rel => exact ⟨j + 1, _, _, hw1, by simp, ⟨HQ.out.inv.mono, HQ.out.mx, HQ.out.my, HQ.out.mb, HQ.out.below⟩⟩
              case measure => simp [intOf]; omega
          · have dk : decide (k < 3) = false := decide_eq_false hk
            go_wp2
            go_roundw
            case rel => exact ⟨j + 1, _, _, hw1, by simp, ⟨HQ.out.inv.mono, HQ.out.mx, HQ.out.my, HQ.out.mb, HQ.out.below⟩⟩
            case measure => simp [intOf]; omega
        · have hjlb : lb = j := by omega
          subst hjlb
          have hz := hp.mb.lt
          have HP0 := Lib.hid (hp.step (new_block _ (.cells #[.int .i64 0, .int .i64 0, .int .i64 0] 40)))
          clear hp hj hjl
          go_wp2_with (fail)
          have z0 : (wr.alloc (.cells #[.int .i64 0, .int .i64 0, .int .i64 0] 40)).cell? ⟨wr.heap.size, 0, none⟩ = some (.int .i64 0) := by simp
          have z1 : (wr.alloc (.cells #[.int .i64 0, .int .i64 0, .int .i64 0] 40)).cell? ⟨wr.heap.size, 1, none⟩ = some (.int .i64 0) := by simp
          have z2 : (wr.alloc (.cells #[.int .i64 0, .int .i64 0, .int .i64 0] 40)).cell? ⟨wr.heap.size, 2, none⟩ = some (.int .i64 0) := by simp
          generalize wr.heap.size = zb at z0 z1 z2 ⊢
          generalize wr.alloc (.cells #[.int .i64 0, .int .i64 0, .int .i64 0] 40) = wn at HP0 z0 z1 z2 ⊢
          have c0 := Under.cell z0
          have c1 := Under.cell z1
          have c2 := Under.cell z2
          clear z0 z1 z2
          have cX := fun q : Under wn => all_any w1.heap.size 0 mx q.W (HP0.out.mx.below q.below)
          have cY := fun q : Under wn => all_any (w1.heap.size + 1) 0 my q.W (HP0.out.my.below q.below)
          have cB := fun q : Under wn => all_any (w1.heap.size + 2) 0 mb q.W (HP0.out.mb.below q.below)
          have cL := fun q : Under wn => last_any (w1.heap.size + 2) 0 mb q.W (HP0.out.mb.below q.below)
          rw [HP0.out.inv.pl, HP0.out.inv.vl, HP0.out.inv.ul] at cL
          have p1 := fun wx => plus_any mx.pa mx.va mx.ua my.pa my.va my.ua wx
          have p2 := fun wx => plus_any mx.pa mx.va mx.ua 0 0 0 wx
          rw [sm_zero HP0.out.inv.okx.pa0 HP0.out.inv.okx.pa1, sm_zero HP0.out.inv.okx.va0 HP0.out.inv.okx.va1, sm_zero HP0.out.inv.okx.ua0 HP0.out.inv.okx.ua1] at p2
          have s0 : sm mx.pa my.pa = mb.pa := by rw [HP0.out.inv.pa]; exact sm_add HP0.out.inv.okx.pa0 HP0.out.inv.oky.pa0 (by have := HP0.out.inv.pa; have := HP0.out.inv.mp; omega)
          have s1 : sm mx.va my.va = mb.va := by rw [HP0.out.inv.va]; exact sm_add HP0.out.inv.okx.va0 HP0.out.inv.oky.va0 (by have := HP0.out.inv.va; have := HP0.out.inv.mv; omega)
          have s2 : sm mx.ua my.ua = mb.ua := by rw [HP0.out.inv.ua]; exact sm_add HP0.out.inv.okx.ua0 HP0.out.inv.oky.ua0 (by have := HP0.out.inv.ua; have := HP0.out.inv.mu; omega)
          rw [s0, s1, s2] at p1
          have CX := Lib.hid cX
          have CY := Lib.hid cY
          have CB := Lib.hid cB
          have CL := Lib.hid cL
          have P1 := Lib.hid p1
          have P2 := Lib.hid p2
          have HB := Lib.hid HP0.out.below
          clear s0 s1 s2 cX cY cB cL p1 p2 HP0
          refine wp_region_under (by kernel_rfl) (by kernel_rfl) ?_
          repeat (quiet_step ((first
            | (go_at_call 11; (with_reducible refine under_call (CX.out _)))
            | (go_at_call 11; (with_reducible refine under_call (CY.out _)))
            | (go_at_call 11; (with_reducible refine under_call (CB.out _)))
            | (go_at_call 12; (with_reducible refine under_call (CL.out _)))
            | (go_at_call 14; (with_reducible refine under_call (P1.out _)))
            | (go_at_call 14; (with_reducible refine under_call (P2.out _))))))
          refine wpQuiet_nil ?_
          intro w5 hw5
          obtain ⟨q, rfl⟩ := hw5
          go_wp2
          go_ret
          exact ⟨rfl, below_step HB.out q.below⟩
theorem joins_any (s t : Option Addr) (la ca lb cb : Nat) (kz nz kz' nz' : Nat → Int) (w : World) (a : String → Addr) (hE : ∀ w', Below w.heap.size w w' → ErrsOk names a w')
    (hA : ∀ j, j < la → ∃ x, s = some x ∧ (∀ W, Below w.heap.size w W → W.cell? (x.add (j * 2)) = some (.int .i64 (kz j)) ∧ W.cell? ⟨(x.add (j * 2)).block, (x.add (j * 2)).off + 1, none⟩ = some (.int .i64 (nz j))) ∧ -9223372036854775808 ≤ nz j ∧ nz j ≤ 9223372036854775807)
    (hA' : ∀ j, j < lb → ∃ x, t = some x ∧ (∀ W, Below w.heap.size w W → W.cell? (x.add (j * 2)) = some (.int .i64 (kz' j)) ∧ W.cell? ⟨(x.add (j * 2)).block, (x.add (j * 2)).off + 1, none⟩ = some (.int .i64 (nz' j))) ∧ -9223372036854775808 ≤ nz' j ∧ nz' j ≤ 9223372036854775807) :
    Calls Tryd.prog 6 #[.slice s la ca, .slice t lb cb] w fun e w' => e = .returned (.bool true) ∧ Below w.heap.size w w' := by
  by_cases h : 40 < la ∨ 40 < lb
  · exact joins_many s t la ca lb cb h w a (hE w (Below.refl _ _))
  · exact joins_few s t la ca lb cb kz nz kz' nz' (by omega) (by omega) w a hE hA hA'
end Go.Proofs.YtfabhnbiijnohaaDoor.meter
