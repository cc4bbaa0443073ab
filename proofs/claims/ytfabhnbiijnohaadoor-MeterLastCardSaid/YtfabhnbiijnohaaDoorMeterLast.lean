/- MeterLast: the walk. -/
import Derived.Test.YtfabhnbiijnohaaDoorMeterDo
namespace Go.Proofs.YtfabhnbiijnohaaDoor.meter
open Go.RowKit errs under trap tail
set_option linter.unusedSimpArgs false
set_option linter.unusedVariables false

/-- behind j acts under a limit: what the last counts are, and how far all counts may have come -/
structure LInv (limit : Int) (j : Nat) (m : Mt) (tp tv tu : Int) : Prop where
  ok : m.Ok
  lim : m.lim = limit
  on : m.on = decide (0 ≤ limit)
  tp0 : 0 ≤ tp
  tv0 : 0 ≤ tv
  tu0 : 0 ≤ tu
  pa : m.pa ≤ 50 * j
  va : m.va ≤ 50 * j
  ua : m.ua ≤ 1073741824 * j
  pl : m.pl = m.pa - tp
  vl : m.vl = m.va - tv
  ul : m.ul = m.ua - tu
  most : 0 ≤ limit → m.ul ≤ limit
theorem LInv.start (limit : Int) (h0 : -9223372036854775808 ≤ limit) (h1 : limit ≤ 9223372036854775807) : LInv limit 0 (Mt.zero.limit limit) 0 0 0 :=
  ⟨Mt.zero_ok.limit limit h0 h1, rfl, rfl, by decide, by decide, by decide, by show (0 : Int) ≤ _; decide, by show (0 : Int) ≤ _; decide, by show (0 : Int) ≤ _; decide, rfl, rfl, rfl, fun h => h⟩
theorem LInv.mono {limit : Int} {j : Nat} {m : Mt} {tp tv tu : Int} (h : LInv limit j m tp tv tu) : LInv limit (j + 1) m tp tv tu := by
  obtain ⟨ok, lim, on, tp0, tv0, tu0, pa, va, ua, pl, vl, ul, most⟩ := h
  exact ⟨ok, lim, on, tp0, tv0, tu0, by omega, by omega, by omega, pl, vl, ul, most⟩
theorem LInv.probes {limit : Int} {j : Nat} {m : Mt} {tp tv tu : Int} (h : LInv limit j m tp tv tu) (hj : j < 60) (c : Int) (c0 : 0 ≤ c) (c1 : c ≤ 50) : LInv limit (j + 1) (m.probes c) tp tv tu := by
  have ok2 := h.ok.probes c
  obtain ⟨ok, lim, on, tp0, tv0, tu0, pa, va, ua, pl, vl, ul, most⟩ := h
  have a1 := ok.pa0
  have a2 := ok.pl0
  have e1 : (m.probes c).pa = m.pa + c := sm_add a1 c0 (by omega)
  have e2 : (m.probes c).pl = m.pl + c := sm_add a2 c0 (by omega)
  exact ⟨ok2, lim, on, tp0, tv0, tu0, by omega, by show m.va ≤ _; omega, by show m.ua ≤ _; omega, by omega, vl, ul, most⟩
theorem LInv.visits {limit : Int} {j : Nat} {m : Mt} {tp tv tu : Int} (h : LInv limit j m tp tv tu) (hj : j < 60) (c : Int) (c0 : 0 ≤ c) (c1 : c ≤ 50) : LInv limit (j + 1) (m.visits c) tp tv tu := by
  have ok2 := h.ok.visits c
  obtain ⟨ok, lim, on, tp0, tv0, tu0, pa, va, ua, pl, vl, ul, most⟩ := h
  have a1 := ok.va0
  have a2 := ok.vl0
  have e1 : (m.visits c).va = m.va + c := sm_add a1 c0 (by omega)
  have e2 : (m.visits c).vl = m.vl + c := sm_add a2 c0 (by omega)
  exact ⟨ok2, lim, on, tp0, tv0, tu0, by show m.pa ≤ _; omega, by omega, by show m.ua ≤ _; omega, pl, by omega, ul, most⟩
theorem LInv.unit {limit : Int} {j : Nat} {m : Mt} {tp tv tu : Int} (h : LInv limit j m tp tv tu) (hj : j < 60) (n : Int) (hn : n ≤ 1073741824) : LInv limit (j + 1) (m.unit n) tp tv tu := by
  unfold Mt.unit
  split
  · exact h.mono
  · rename_i h1
    split
    · exact h.mono
    · rename_i hp
      have ok2 := h.ok.units n
      obtain ⟨ok, lim, on, tp0, tv0, tu0, pa, va, ua, pl, vl, ul, most⟩ := h
      have a1 := ok.ua0
      have a2 := ok.ul0
      have e1 : (m.units n).ua = m.ua + n := sm_add a1 (by omega) (by omega)
      have e2 : (m.units n).ul = m.ul + n := sm_add a2 (by omega) (by omega)
      refine ⟨ok2, lim, on, tp0, tv0, tu0, by show m.pa ≤ _; omega, by show m.va ≤ _; omega, by omega, pl, vl, by omega, fun hl => ?_⟩
      unfold Mt.past at hp
      rw [on, decide_eq_true hl] at hp
      simp only [Bool.true_and, decide_eq_true_eq] at hp
      omega
theorem visN_in (n : Int) : 0 ≤ visN n ∧ visN n ≤ 50 := by have := visN_at n; omega
/-- an act that isn't a Reset -/
theorem LInv.act {limit : Int} {j : Nat} {m : Mt} {tp tv tu : Int} (h : LInv limit j m tp tv tu) (hj : j < 60) (k n : Int) (k3 : k ≠ 3) (k4 : k ≠ 4) (hn : k = 2 → n ≤ 1073741824) : LInv limit (j + 1) (doM m k n) tp tv tu := by
  unfold doM
  split
  · exact h.probes hj _ (visN_in n).1 (visN_in n).2
  split
  · exact h.visits hj _ (visN_in n).1 (visN_in n).2
  split
  · rename_i h2; exact h.unit hj n (hn h2)
  exact h.mono
/-- a Reset -/
theorem LInv.again {limit : Int} {j : Nat} {m : Mt} {tp tv tu : Int} (h : LInv limit j m tp tv tu) (n : Int) : LInv limit (j + 1) (doM m 3 n) (doM m 3 n).pa (doM m 3 n).va (doM m 3 n).ua := by
  have e : doM m 3 n = m.reset := by unfold doM; rw [if_neg (by decide), if_neg (by decide), if_neg (by decide), if_pos rfl]
  rw [e]
  obtain ⟨ok, lim, on, tp0, tv0, tu0, pa, va, ua, pl, vl, ul, most⟩ := h
  refine ⟨ok.reset, lim, on, ok.pa0, ok.va0, ok.ua0, by show m.pa ≤ _; omega, by show m.va ≤ _; omega, by show m.ua ≤ _; omega, ?_, ?_, ?_, fun h => h⟩
  · show (0 : Int) = m.pa - m.pa; omega
  · show (0 : Int) = m.va - m.va; omega
  · show (0 : Int) = m.ua - m.ua; omega
/-- counts in a block -/
structure CtsAt (T : Nat) (a b c : Int) (W : World) : Prop where
  c0 : W.cell? ⟨T, 0, none⟩ = some (.int .i64 a)
  c1 : W.cell? ⟨T, 1, none⟩ = some (.int .i64 b)
  c2 : W.cell? ⟨T, 2, none⟩ = some (.int .i64 c)
  fz : ∀ i, W.frozen? ⟨T, i, none⟩ = false
theorem CtsAt.lt {T : Nat} {a b c : Int} {w : World} (h : CtsAt T a b c w) : T < w.heap.size := World.block_lt_of_cell? w _ h.c0
theorem CtsAt.past {T : Nat} {a b c : Int} {w w' : World} {d : List Nat} (h : CtsAt T a b c w) (hb : Past d w w') (hd : T ∉ d) : CtsAt T a b c w' :=
  ⟨hb.cell h.c0 hd, hb.cell h.c1 hd, hb.cell h.c2 hd, fun i => (hb.frozen h.lt hd).trans (h.fz i)⟩
theorem CtsAt.below {T : Nat} {a b c : Int} {w w' : World} (h : CtsAt T a b c w) (hb : Below w.heap.size w w') : CtsAt T a b c w' := h.past (Past.of (d := []) hb) (by simp)
theorem CtsAt.new (w : World) (a b c : Int) : CtsAt w.heap.size a b c (w.alloc (.cells #[.int .i64 a, .int .i64 b, .int .i64 c] 40)) := by
  constructor <;> simp [go_sem]
theorem CtsAt.set {T : Nat} {a b c : Int} {w : World} (h : CtsAt T a b c w) (x y z : Int) : CtsAt T x y z (((w.setCell ⟨T, 0, none⟩ (.int .i64 x)).setCell ⟨T, 1, none⟩ (.int .i64 y)).setCell ⟨T, 2, none⟩ (.int .i64 z)) := by
  obtain ⟨h0, h1, h2, hf⟩ := h
  constructor <;> simp [World.cell?_setCell_same', World.cell?_setCell_other, h0, h1, h2, hf]
/-- the state behind j acts -/
structure LastOk (w : World) (B T : Nat) (limit : Int) (j : Nat) (m : Mt) (tp tv tu : Int) (W : World) : Prop where
  inv : LInv limit j m tp tv tu
  mt : MAt B 0 m W
  th : CtsAt T tp tv tu W
  below : Below w.heap.size w W
theorem last_many (s : Option Addr) (la ca : Nat) (limit : Int) (h60 : 60 < la) (w : World) (a : String → Addr) (hE : ErrsOk names a w) :
    Calls Tryd.prog 5 #[.slice s la ca, .int .i64 limit] w fun e w' => e = .returned (.bool true) ∧ Below w.heap.size w w' := by
  have hA := alive_any a w (hE.at gErrLimit (nm_mem (i := 10) (by decide)))
  have h1 : (60 : Int) < (la : Int) := by omega
  go_enter Tryd.func5, Tryd.ntmps5
  go_wp2_with (go_at_call 7; refine hA.mono ?_; rintro e w1 ⟨rfl, hb1⟩)
  go_ret
  exact ⟨rfl, hb1⟩
set_option maxHeartbeats 4000000 in
set_option maxRecDepth 100000 in
theorem last_few (s : Option Addr) (la ca : Nat) (kz nz : Nat → Int) (limit : Int) (hl0 : -9223372036854775808 ≤ limit) (hl1 : limit ≤ 9223372036854775807) (h60 : la ≤ 60) (w : World) (a : String → Addr) (hE : ∀ w', Below w.heap.size w w' → ErrsOk names a w')
    (hA : ∀ j, j < la → ∃ x, s = some x ∧ (∀ W, Below w.heap.size w W → W.cell? (x.add (j * 2)) = some (.int .i64 (kz j)) ∧ W.cell? ⟨(x.add (j * 2)).block, (x.add (j * 2)).off + 1, none⟩ = some (.int .i64 (nz j))) ∧ -9223372036854775808 ≤ nz j ∧ nz j ≤ 9223372036854775807) :
    Calls Tryd.prog 5 #[.slice s la ca, .int .i64 limit] w fun e w' => e = .returned (.bool true) ∧ Below w.heap.size w w' := by
  have hAl := alive_any a w ((hE w (Below.refl _ _)).at gErrLimit (nm_mem (i := 10) (by decide)))
  have h1 : ¬ (60 : Int) < (la : Int) := by omega
  have HE := Lib.hid hE
  have HA := Lib.hid hA
  have HL := Lib.hid (LInv.start limit hl0 hl1)
  have f2 := fld2
  clear hE hA hl0 hl1
  go_enter Tryd.func5, Tryd.ntmps5
  go_wp2_with (first
    | (go_at_call 7; refine hAl.mono ?_; rintro e w1 ⟨rfl, hb1⟩; have HM1 := Lib.hid (MAt.new w1); have hb2 := below_step hb1 (new_block w1 (.cells #[.int .i64 0, .int .i64 0, .int .i64 0, .int .i64 0, .int .i64 0, .int .i64 0, .int .i64 0, .bool false] 28)))
    | (go_at_call 16; (with_reducible refine (limit_any w1.heap.size 0 _ limit _ HM1.out).mono ?_); rintro e w2 ⟨rfl, s2⟩; have hb3 := MStep.fresh hb2 s2 hb1.size; have HM2 := Lib.hid s2.at')
    | (go_at_call 11; (with_reducible refine (all_any w1.heap.size 0 _ _ HM2.out).mono ?_); rintro e w3 ⟨rfl, hb4⟩))
  have hB1 := hb1.size
  have hm3 := HM2.out.below hb4
  have hBT := hm3.lt
  have hb5 := below_step hb3 hb4
  have HS := Lib.hid (LastOk.mk HL.out (hm3.below (new_block w3 (.cells #[.int .i64 0, .int .i64 0, .int .i64 0] 40))) (CtsAt.new w3 0 0 0) (below_step hb5 (new_block _ _)))
  clear hAl hb1 HM1 hb2 s2 hb3 HM2 hm3 hb4 hb5 HL
  go_loopw [24] (fun i wr => ∃ (j : Nat) (m : Mt) (tp tv tu : Int), j ≤ la ∧ i = .int .i64 j ∧ LastOk w w1.heap.size w3.heap.size limit j m tp tv tu wr) (fun i _ => la - (intOf i).toNat)
  case atStart => exact ⟨0, Mt.zero.limit limit, 0, 0, 0, by omega, rfl, HS.out⟩
  case round =>
    obtain ⟨j, m, tp, tv, tu, hj, rfl, hp⟩ := hrel
    rcases Nat.lt_or_ge j la with hjl | hjl
    · obtain ⟨x, rfl, hcs, bn0, bn1⟩ := HA.out j hjl
      obtain ⟨ck, cn⟩ := hcs _ hp.below
      have hji : (j : Int) < (la : Int) := by omega
      have hw1 : j + 1 ≤ la := by omega
      have hj60 : j < 60 := by omega
      have hTl := hp.th.lt
      have hret := below_step hp.below (new_block wr (.cells #[.int .i64 (kz j), .int .i64 (nz j)] 35))
      have HP := Lib.hid hp
      clear hcs hp bn0 bn1
      generalize hgk : kz j = k at *
      generalize hgn : nz j = n at *
      clear hgk hgn
      by_cases k4 : k = 4
      · subst k4
        go_wp2
        go_roundw
        case rel => exact ⟨j + 1, m, tp, tv, tu, hw1, by simp, HP.out.inv.mono, HP.out.mt.below (new_block _ _), HP.out.th.below (new_block _ _), hret⟩
        case measure => simp [intOf]; omega
      · have d4 : (k == 4) = false := by simp; omega
        by_cases hL : 1073741824 < limit
        · have dl0 : decide (limit < 0) = false := decide_eq_false (by omega)
          have dL : decide (1073741824 < limit) = true := decide_eq_true hL
          by_cases k2 : k = 2
          · subst k2
            go_wp2
            all_goals
              go_ret
              exact ⟨rfl, hret⟩
          · have d2 : (k == 2) = false := by simp; omega
            go_wp2
            all_goals
              go_ret
              exact ⟨rfl, hret⟩
        · have dL : decide (1073741824 < limit) = false := decide_eq_false hL
          by_cases k2 : k = 2
          · subst k2
            by_cases n1 : 1000 < n
            · have dn1 : decide (1000 < n) = true := decide_eq_true n1
              by_cases l0 : limit < 0
              · have dl0 : decide (limit < 0) = true := decide_eq_true l0
                go_wp2
                go_ret
                exact ⟨rfl, hret⟩
              · have dl0 : decide (limit < 0) = false := decide_eq_false l0
                by_cases n2 : 1073741824 < n
                · have dn2 : decide (1073741824 < n) = true := decide_eq_true n2
                  go_wp2
                  go_ret
                  exact ⟨rfl, hret⟩
                · have dn2 : decide (1073741824 < n) = false := decide_eq_false n2
                  have HI := Lib.hid (HP.out.inv.act hj60 2 n (by decide) (by decide) (fun _ => by omega))
                  have hmA := HP.out.mt.below (new_block wr (.cells #[.int .i64 2, .int .i64 n] 35))
                  have hD := do_any a w1.heap.size m HP.out.inv.ok 2 n _ hmA (fun wx hx => HE.out wx (hret.trans (hx.below hret.size (by simp; omega))))
                  have HD := Lib.hid hD
                  clear hD hmA
                  generalize doM m 2 n = M at HD HI
                  have HR := Lib.hid hret
                  have HT := Lib.hid (HP.out.th.below (new_block wr (.cells #[.int .i64 2, .int .i64 n] 35)))
                  clear hret
                  go_wp2_with (fail)
                  refine HD.out.mono ?_
                  rintro e wd ⟨rfl, hpd, hmd⟩
                  have kd : wd.cell? ⟨wr.heap.size, 0, none⟩ = some (.int .i64 2) := hpd.cell (by simp) (by simp; omega)
                  have HTd := Lib.hid (HT.out.past hpd (by simp; omega))
                  have HMd := Lib.hid hmd
                  have HBd := Lib.hid (HR.out.trans (hpd.below HR.out.size (by simp; omega)))
                  clear hpd hmd ck cn HD HT HP HR
                  go_wp2_with (fail)
                  refine (all_any w1.heap.size 0 M _ HMd.out).mono ?_
                  rintro e wf ⟨rfl, hbf⟩
                  have HMf := Lib.hid (HMd.out.below hbf)
                  have HTf := Lib.hid (HTd.out.below hbf)
                  have HBf := Lib.hid (below_step HBd.out hbf)
                  clear kd HTd HMd HBd hbf
                  go_wp2_with (fail)
                  have hn := CtsAt.new wf M.pa M.va M.ua
                  have hMn := HMf.out.below (new_block wf (.cells #[.int .i64 M.pa, .int .i64 M.va, .int .i64 M.ua] 40))
                  have hTn := HTf.out.below (new_block wf (.cells #[.int .i64 M.pa, .int .i64 M.va, .int .i64 M.ua] 40))
                  have hBn := below_step HBf.out (new_block wf (.cells #[.int .i64 M.pa, .int .i64 M.va, .int .i64 M.ua] 40))
                  generalize wf.heap.size = nb at hn ⊢
                  generalize wf.alloc (.cells #[.int .i64 M.pa, .int .i64 M.va, .int .i64 M.ua] 40) = wn at hn hMn hTn hBn ⊢
                  have cL := fun q : Under wn => last_any w1.heap.size 0 M q.W (hMn.below q.below)
                  have n0 := Under.cell hn.c0
                  have n1' := Under.cell hn.c1
                  have n2' := Under.cell hn.c2
                  have t0 := Under.cell hTn.c0
                  have t1 := Under.cell hTn.c1
                  have t2 := Under.cell hTn.c2
                  have HMn := Lib.hid hMn
                  have HTn := Lib.hid hTn
                  have HBn := Lib.hid hBn
                  have e0 : IntKind.i64.wrap (M.pa - tp) = M.pl := by have h1 := HI.out.pl; have h2 := HI.out.ok.pl0; have h3 := HI.out.ok.pl1; rw [← h1]; exact IntWalk.i64_in _ (by omega)
                  have e1 : IntKind.i64.wrap (M.va - tv) = M.vl := by have h1 := HI.out.vl; have h2 := HI.out.ok.vl0; have h3 := HI.out.ok.vl1; rw [← h1]; exact IntWalk.i64_in _ (by omega)
                  have e2 : IntKind.i64.wrap (M.ua - tu) = M.ul := by have h1 := HI.out.ul; have h2 := HI.out.ok.ul0; have h3 := HI.out.ok.ul1; rw [← h1]; exact IntWalk.i64_in _ (by omega)
                  have CL := Lib.hid cL
                  clear cL hn hMn hTn hBn HMf HTf HBf
                  have dl : decide (0 ≤ limit) = true := decide_eq_true (by omega)
                  have dm : decide (limit < M.ul) = false := decide_eq_false (by have := HI.out.most (by omega); omega)
                  refine wp_region_under (by kernel_rfl) (by kernel_rfl) ?_
                  repeat (quiet_step ((go_at_call 12; (with_reducible refine under_call (CL.out _)))))
                  refine wpQuiet_nil ?_
                  intro w5 hw5
                  obtain ⟨q, rfl⟩ := hw5
                  have HF := Lib.hid (LastOk.mk HI.out (HMn.out.below q.below) (HTn.out.below q.below) (below_step HBn.out q.below))
                  clear n0 n1' n2' t0 t1 t2 CL HMn HTn HBn HI f2 e0 e1 e2
                  go_wp2
                  go_roundw
                  case rel => exact ⟨j + 1, _, _, _, _, hw1, by simp, HF.out⟩
                  case measure => simp [intOf]; omega
            · have dn1 : decide (1000 < n) = false := decide_eq_false n1
              have dn2 : decide (1073741824 < n) = false := decide_eq_false (by omega)
              have HI := Lib.hid (HP.out.inv.act hj60 2 n (by decide) (by decide) (fun _ => by omega))
              have hmA := HP.out.mt.below (new_block wr (.cells #[.int .i64 2, .int .i64 n] 35))
              have hD := do_any a w1.heap.size m HP.out.inv.ok 2 n _ hmA (fun wx hx => HE.out wx (hret.trans (hx.below hret.size (by simp; omega))))
              have HD := Lib.hid hD
              clear hD hmA
              generalize doM m 2 n = M at HD HI
              have HR := Lib.hid hret
              have HT := Lib.hid (HP.out.th.below (new_block wr (.cells #[.int .i64 2, .int .i64 n] 35)))
              clear hret
              go_wp2_with (fail)
              refine HD.out.mono ?_
              rintro e wd ⟨rfl, hpd, hmd⟩
              have kd : wd.cell? ⟨wr.heap.size, 0, none⟩ = some (.int .i64 2) := hpd.cell (by simp) (by simp; omega)
              have HTd := Lib.hid (HT.out.past hpd (by simp; omega))
              have HMd := Lib.hid hmd
              have HBd := Lib.hid (HR.out.trans (hpd.below HR.out.size (by simp; omega)))
              clear hpd hmd ck cn HD HT HP HR
              go_wp2_with (fail)
              refine (all_any w1.heap.size 0 M _ HMd.out).mono ?_
              rintro e wf ⟨rfl, hbf⟩
              have HMf := Lib.hid (HMd.out.below hbf)
              have HTf := Lib.hid (HTd.out.below hbf)
              have HBf := Lib.hid (below_step HBd.out hbf)
              clear kd HTd HMd HBd hbf
              go_wp2_with (fail)
              have hn := CtsAt.new wf M.pa M.va M.ua
              have hMn := HMf.out.below (new_block wf (.cells #[.int .i64 M.pa, .int .i64 M.va, .int .i64 M.ua] 40))
              have hTn := HTf.out.below (new_block wf (.cells #[.int .i64 M.pa, .int .i64 M.va, .int .i64 M.ua] 40))
              have hBn := below_step HBf.out (new_block wf (.cells #[.int .i64 M.pa, .int .i64 M.va, .int .i64 M.ua] 40))
              generalize wf.heap.size = nb at hn ⊢
              generalize wf.alloc (.cells #[.int .i64 M.pa, .int .i64 M.va, .int .i64 M.ua] 40) = wn at hn hMn hTn hBn ⊢
              have cL := fun q : Under wn => last_any w1.heap.size 0 M q.W (hMn.below q.below)
              have n0 := Under.cell hn.c0
              have n1' := Under.cell hn.c1
              have n2' := Under.cell hn.c2
              have t0 := Under.cell hTn.c0
              have t1 := Under.cell hTn.c1
              have t2 := Under.cell hTn.c2
              have HMn := Lib.hid hMn
              have HTn := Lib.hid hTn
              have HBn := Lib.hid hBn
              have e0 : IntKind.i64.wrap (M.pa - tp) = M.pl := by have h1 := HI.out.pl; have h2 := HI.out.ok.pl0; have h3 := HI.out.ok.pl1; rw [← h1]; exact IntWalk.i64_in _ (by omega)
              have e1 : IntKind.i64.wrap (M.va - tv) = M.vl := by have h1 := HI.out.vl; have h2 := HI.out.ok.vl0; have h3 := HI.out.ok.vl1; rw [← h1]; exact IntWalk.i64_in _ (by omega)
              have e2 : IntKind.i64.wrap (M.ua - tu) = M.ul := by have h1 := HI.out.ul; have h2 := HI.out.ok.ul0; have h3 := HI.out.ok.ul1; rw [← h1]; exact IntWalk.i64_in _ (by omega)
              have CL := Lib.hid cL
              clear cL hn hMn hTn hBn HMf HTf HBf
              by_cases l0 : 0 ≤ limit
              · skip
                have dl : decide (0 ≤ limit) = true := decide_eq_true l0
                have dm : decide (limit < M.ul) = false := decide_eq_false (by have := HI.out.most l0; omega)
                refine wp_region_under (by kernel_rfl) (by kernel_rfl) ?_
                repeat (quiet_step ((go_at_call 12; (with_reducible refine under_call (CL.out _)))))
                refine wpQuiet_nil ?_
                intro w5 hw5
                obtain ⟨q, rfl⟩ := hw5
                have HF := Lib.hid (LastOk.mk HI.out (HMn.out.below q.below) (HTn.out.below q.below) (below_step HBn.out q.below))
                clear n0 n1' n2' t0 t1 t2 CL HMn HTn HBn HI f2 e0 e1 e2
                go_wp2
                go_roundw
                case rel => exact ⟨j + 1, _, _, _, _, hw1, by simp, HF.out⟩
                case measure => simp [intOf]; omega
              · skip
                have dl : decide (0 ≤ limit) = false := decide_eq_false l0
                refine wp_region_under (by kernel_rfl) (by kernel_rfl) ?_
                repeat (quiet_step ((go_at_call 12; (with_reducible refine under_call (CL.out _)))))
                refine wpQuiet_nil ?_
                intro w5 hw5
                obtain ⟨q, rfl⟩ := hw5
                have HF := Lib.hid (LastOk.mk HI.out (HMn.out.below q.below) (HTn.out.below q.below) (below_step HBn.out q.below))
                clear n0 n1' n2' t0 t1 t2 CL HMn HTn HBn HI f2 e0 e1 e2
                go_wp2
                go_roundw
                case rel => exact ⟨j + 1, _, _, _, _, hw1, by simp, HF.out⟩
                case measure => simp [intOf]; omega
          · have d2 : (k == 2) = false := by simp; omega
            by_cases k3 : k = 3
            · subst k3
              have HI := Lib.hid (HP.out.inv.again n)
              have hmA := HP.out.mt.below (new_block wr (.cells #[.int .i64 3, .int .i64 n] 35))
              have hD := do_any a w1.heap.size m HP.out.inv.ok 3 n _ hmA (fun wx hx => HE.out wx (hret.trans (hx.below hret.size (by simp; omega))))
              have HD := Lib.hid hD
              clear hD hmA
              generalize doM m 3 n = M at HD HI
              have HR := Lib.hid hret
              have HT := Lib.hid (HP.out.th.below (new_block wr (.cells #[.int .i64 3, .int .i64 n] 35)))
              clear hret
              go_wp2_with (fail)
              refine HD.out.mono ?_
              rintro e wd ⟨rfl, hpd, hmd⟩
              have kd : wd.cell? ⟨wr.heap.size, 0, none⟩ = some (.int .i64 3) := hpd.cell (by simp) (by simp; omega)
              have HTd := Lib.hid (HT.out.past hpd (by simp; omega))
              have HMd := Lib.hid hmd
              have HBd := Lib.hid (HR.out.trans (hpd.below HR.out.size (by simp; omega)))
              clear hpd hmd ck cn HD HT HP HR
              go_wp2_with (fail)
              refine (all_any w1.heap.size 0 M _ HMd.out).mono ?_
              rintro e we ⟨rfl, hbe⟩
              have hte := HTd.out.below hbe
              have ht0 := hte.c0
              have ht1 := hte.c1
              have ht2 := hte.c2
              have htf := hte.fz
              have HTs := Lib.hid (hte.set M.pa M.va M.ua)
              have hps := ((((Past.of (d := [w3.heap.size]) hbe).store (p := ⟨w3.heap.size, 0, none⟩) (.inl (by simp)) (.int .i64 M.pa)).store (p := ⟨w3.heap.size, 1, none⟩) (.inl (by simp)) (.int .i64 M.va)).store (p := ⟨w3.heap.size, 2, none⟩) (.inl (by simp)) (.int .i64 M.ua))
              have HMs := Lib.hid (HMd.out.past hps (by simp; omega))
              have HBs := Lib.hid (HBd.out.trans (hps.below HBd.out.size (by have := HBd.out.size; simp; omega)))
              clear hte hps kd HTd HMd HBd
              go_wp2_with (fail)
              refine (all_any w1.heap.size 0 M _ HMs.out).mono ?_
              rintro e wf ⟨rfl, hbf⟩
              have HMf := Lib.hid (HMs.out.below hbf)
              have HTf := Lib.hid (HTs.out.below hbf)
              have HBf := Lib.hid (below_step HBs.out hbf)
              clear ht0 ht1 ht2 htf HTs HMs HBs hbf
              go_wp2_with (fail)
              have hn := CtsAt.new wf M.pa M.va M.ua
              have hMn := HMf.out.below (new_block wf (.cells #[.int .i64 M.pa, .int .i64 M.va, .int .i64 M.ua] 40))
              have hTn := HTf.out.below (new_block wf (.cells #[.int .i64 M.pa, .int .i64 M.va, .int .i64 M.ua] 40))
              have hBn := below_step HBf.out (new_block wf (.cells #[.int .i64 M.pa, .int .i64 M.va, .int .i64 M.ua] 40))
              generalize wf.heap.size = nb at hn ⊢
              generalize wf.alloc (.cells #[.int .i64 M.pa, .int .i64 M.va, .int .i64 M.ua] 40) = wn at hn hMn hTn hBn ⊢
              have cL := fun q : Under wn => last_any w1.heap.size 0 M q.W (hMn.below q.below)
              have n0 := Under.cell hn.c0
              have n1' := Under.cell hn.c1
              have n2' := Under.cell hn.c2
              have t0 := Under.cell hTn.c0
              have t1 := Under.cell hTn.c1
              have t2 := Under.cell hTn.c2
              have HMn := Lib.hid hMn
              have HTn := Lib.hid hTn
              have HBn := Lib.hid hBn
              have z0 : M.pl = 0 := by rw [HI.out.pl]; omega
              have z1 : M.vl = 0 := by rw [HI.out.vl]; omega
              have z2 : M.ul = 0 := by rw [HI.out.ul]; omega
              rw [z0, z1, z2] at cL
              clear z0 z1 z2
              have e0 : IntKind.i64.wrap 0 = 0 := by decide
              have CL := Lib.hid cL
              clear cL hn hMn hTn hBn HMf HTf HBf
              by_cases l0 : 0 ≤ limit
              · skip
                have dl : decide (0 ≤ limit) = true := decide_eq_true l0
                have dm : decide (limit < 0) = false := decide_eq_false (by omega)
                refine wp_region_under (by kernel_rfl) (by kernel_rfl) ?_
                repeat (quiet_step ((go_at_call 12; (with_reducible refine under_call (CL.out _)))))
                refine wpQuiet_nil ?_
                intro w5 hw5
                obtain ⟨q, rfl⟩ := hw5
                have HF := Lib.hid (LastOk.mk HI.out (HMn.out.below q.below) (HTn.out.below q.below) (below_step HBn.out q.below))
                clear n0 n1' n2' t0 t1 t2 CL HMn HTn HBn HI f2 e0
                go_wp2
                go_roundw
                case rel => exact ⟨j + 1, _, _, _, _, hw1, by simp, HF.out⟩
                case measure => simp [intOf]; omega
              · skip
                have dl : decide (0 ≤ limit) = false := decide_eq_false l0
                refine wp_region_under (by kernel_rfl) (by kernel_rfl) ?_
                repeat (quiet_step ((go_at_call 12; (with_reducible refine under_call (CL.out _)))))
                refine wpQuiet_nil ?_
                intro w5 hw5
                obtain ⟨q, rfl⟩ := hw5
                have HF := Lib.hid (LastOk.mk HI.out (HMn.out.below q.below) (HTn.out.below q.below) (below_step HBn.out q.below))
                clear n0 n1' n2' t0 t1 t2 CL HMn HTn HBn HI f2 e0
                go_wp2
                go_roundw
                case rel => exact ⟨j + 1, _, _, _, _, hw1, by simp, HF.out⟩
                case measure => simp [intOf]; omega
            · have d3 : (k == 3) = false := by simp; omega
              have HI := Lib.hid (HP.out.inv.act hj60 k n k3 k4 (fun h => absurd h k2))
              have hmA := HP.out.mt.below (new_block wr (.cells #[.int .i64 k, .int .i64 n] 35))
              have hD := do_any a w1.heap.size m HP.out.inv.ok k n _ hmA (fun wx hx => HE.out wx (hret.trans (hx.below hret.size (by simp; omega))))
              have HD := Lib.hid hD
              clear hD hmA
              generalize doM m k n = M at HD HI
              have HR := Lib.hid hret
              have HT := Lib.hid (HP.out.th.below (new_block wr (.cells #[.int .i64 k, .int .i64 n] 35)))
              clear hret
              go_wp2_with (fail)
              refine HD.out.mono ?_
              rintro e wd ⟨rfl, hpd, hmd⟩
              have kd : wd.cell? ⟨wr.heap.size, 0, none⟩ = some (.int .i64 k) := hpd.cell (by simp) (by simp; omega)
              have HTd := Lib.hid (HT.out.past hpd (by simp; omega))
              have HMd := Lib.hid hmd
              have HBd := Lib.hid (HR.out.trans (hpd.below HR.out.size (by simp; omega)))
              clear hpd hmd ck cn HD HT HP HR
              go_wp2_with (fail)
              refine (all_any w1.heap.size 0 M _ HMd.out).mono ?_
              rintro e wf ⟨rfl, hbf⟩
              have HMf := Lib.hid (HMd.out.below hbf)
              have HTf := Lib.hid (HTd.out.below hbf)
              have HBf := Lib.hid (below_step HBd.out hbf)
              clear kd HTd HMd HBd hbf
              go_wp2_with (fail)
              have hn := CtsAt.new wf M.pa M.va M.ua
              have hMn := HMf.out.below (new_block wf (.cells #[.int .i64 M.pa, .int .i64 M.va, .int .i64 M.ua] 40))
              have hTn := HTf.out.below (new_block wf (.cells #[.int .i64 M.pa, .int .i64 M.va, .int .i64 M.ua] 40))
              have hBn := below_step HBf.out (new_block wf (.cells #[.int .i64 M.pa, .int .i64 M.va, .int .i64 M.ua] 40))
              generalize wf.heap.size = nb at hn ⊢
              generalize wf.alloc (.cells #[.int .i64 M.pa, .int .i64 M.va, .int .i64 M.ua] 40) = wn at hn hMn hTn hBn ⊢
              have cL := fun q : Under wn => last_any w1.heap.size 0 M q.W (hMn.below q.below)
              have n0 := Under.cell hn.c0
              have n1' := Under.cell hn.c1
              have n2' := Under.cell hn.c2
              have t0 := Under.cell hTn.c0
              have t1 := Under.cell hTn.c1
              have t2 := Under.cell hTn.c2
              have HMn := Lib.hid hMn
              have HTn := Lib.hid hTn
              have HBn := Lib.hid hBn
              have e0 : IntKind.i64.wrap (M.pa - tp) = M.pl := by have h1 := HI.out.pl; have h2 := HI.out.ok.pl0; have h3 := HI.out.ok.pl1; rw [← h1]; exact IntWalk.i64_in _ (by omega)
              have e1 : IntKind.i64.wrap (M.va - tv) = M.vl := by have h1 := HI.out.vl; have h2 := HI.out.ok.vl0; have h3 := HI.out.ok.vl1; rw [← h1]; exact IntWalk.i64_in _ (by omega)
              have e2 : IntKind.i64.wrap (M.ua - tu) = M.ul := by have h1 := HI.out.ul; have h2 := HI.out.ok.ul0; have h3 := HI.out.ok.ul1; rw [← h1]; exact IntWalk.i64_in _ (by omega)
              have CL := Lib.hid cL
              clear cL hn hMn hTn hBn HMf HTf HBf
              by_cases l0 : 0 ≤ limit
              · skip
                have dl : decide (0 ≤ limit) = true := decide_eq_true l0
                have dm : decide (limit < M.ul) = false := decide_eq_false (by have := HI.out.most l0; omega)
                refine wp_region_under (by kernel_rfl) (by kernel_rfl) ?_
                repeat (quiet_step ((go_at_call 12; (with_reducible refine under_call (CL.out _)))))
                refine wpQuiet_nil ?_
                intro w5 hw5
                obtain ⟨q, rfl⟩ := hw5
                have HF := Lib.hid (LastOk.mk HI.out (HMn.out.below q.below) (HTn.out.below q.below) (below_step HBn.out q.below))
                clear n0 n1' n2' t0 t1 t2 CL HMn HTn HBn HI f2 e0 e1 e2
                go_wp2
                go_roundw
                case rel => exact ⟨j + 1, _, _, _, _, hw1, by simp, HF.out⟩
                case measure => simp [intOf]; omega
              · skip
                have dl : decide (0 ≤ limit) = false := decide_eq_false l0
                refine wp_region_under (by kernel_rfl) (by kernel_rfl) ?_
                repeat (quiet_step ((go_at_call 12; (with_reducible refine under_call (CL.out _)))))
                refine wpQuiet_nil ?_
                intro w5 hw5
                obtain ⟨q, rfl⟩ := hw5
                have HF := Lib.hid (LastOk.mk HI.out (HMn.out.below q.below) (HTn.out.below q.below) (below_step HBn.out q.below))
                clear n0 n1' n2' t0 t1 t2 CL HMn HTn HBn HI f2 e0 e1 e2
                go_wp2
                go_roundw
                case rel => exact ⟨j + 1, _, _, _, _, hw1, by simp, HF.out⟩
                case measure => simp [intOf]; omega
    · obtain rfl : j = la := by omega
      have hb := hp.below
      clear hp HA f2
      go_wp2
      go_ret
      exact ⟨rfl, hb⟩
theorem last_any' (s : Option Addr) (la ca : Nat) (kz nz : Nat → Int) (limit : Int) (hl0 : -9223372036854775808 ≤ limit) (hl1 : limit ≤ 9223372036854775807) (w : World) (a : String → Addr) (hE : ∀ w', Below w.heap.size w w' → ErrsOk names a w')
    (hA : ∀ j, j < la → ∃ x, s = some x ∧ (∀ W, Below w.heap.size w W → W.cell? (x.add (j * 2)) = some (.int .i64 (kz j)) ∧ W.cell? ⟨(x.add (j * 2)).block, (x.add (j * 2)).off + 1, none⟩ = some (.int .i64 (nz j))) ∧ -9223372036854775808 ≤ nz j ∧ nz j ≤ 9223372036854775807) :
    Calls Tryd.prog 5 #[.slice s la ca, .int .i64 limit] w fun e w' => e = .returned (.bool true) ∧ Below w.heap.size w w' := by
  rcases Nat.lt_or_ge 60 la with h | h
  · exact last_many s la ca limit h w a (hE w (Below.refl _ _))
  · exact last_few s la ca kz nz limit hl0 hl1 h w a hE hA
end Go.Proofs.YtfabhnbiijnohaaDoor.meter
