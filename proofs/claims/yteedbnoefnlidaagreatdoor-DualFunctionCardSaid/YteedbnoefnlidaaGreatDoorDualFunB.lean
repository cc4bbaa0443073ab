/- DualFunB: several texts in one: plain facts and laws for the walks. No program is named. -/
import Derived.Test.YteedbnoefnlidaaGreatDoorDualFunA
import Derived.LoopTactic
import Derived.BigQuiet
import Derived.Deep.CutRange
import Derived.Deep.CutBlock
import Derived.Deep.RegionHeld3

/-! ### DualFunction: the walk. -/
namespace Go.Proofs.YteedbnoefnlidaaGreatDoor.dual
open Go.ChangeShapes Go.WideShapes Go.ChangeAt Go.RowKit Go.Shelf swar under trap meter group probe lens tail call table evac
attribute [local go_sem] Oper.semAt_some stage.pureUpon move.stepUpon movex.stepUpon
set_option linter.unusedSimpArgs false
set_option linter.unusedVariables false

theorem DB.more {a : String → Addr} {w1 : World} {H : Nat → Nat} {la : Nat} {Y : Lay} {D n1 d : Nat} {dp : Int} {q c : Nat} {t : Nat → Tb} {F : Nat → Option Nat} {fp : List Nat} {Bm Bt Bv p v : Nat} {G : Nat → Option Nat} {V : Nat → Nat} {W : World} (h : DB a w1 H la Y D n1 d dp q c t F fp Bm Bt Bv p v G V W) : DB a w1 H la Y D n1 d dp q (c + 1) t F fp Bm Bt Bv p v G V W :=
  ⟨h.dm.mono (by omega), h.ma, h.rows, h.nm, h.nt, h.nv, h.mt, h.mv, h.hm, h.ht, h.hv⟩
set_option maxRecDepth 100000 in
set_option maxHeartbeats 4000000 in
theorem fun_few (a : String → Addr) (n0 : Nat) (new depth : Int) (sh : Option Addr) (lh ch : Nat) (sk : Option Addr) (lk ck : Nat) (s2 : Option Addr) (lb cb : Nat) (hS : Short ⟨n0, new, depth, sh, lh, ch, sk, lk, ck⟩ n0) (hm : ¬ 120 < lb) (hf : ¬ wrap64 (6 * new) < (lk : Int) + lb) (hz : Nat → Nat) (kz : Nat → Int) (az : Nat → Ac) (w : World) (hw : Bq a w) (hH : HashAt sh lh w hz) (hK : IntsAt sk lk w kz) (hA : ActAt s2 lb w az) :
    Calls Tryz.prog 4 #[.agg #[.int .i64 n0, .int .i64 new, .int .i64 depth, .slice sh lh ch, .slice sk lk ck], .slice s2 lb cb] w fun e w' => e = .returned (.bool true) ∧ Below w.heap.size w w' := by
  have cA := fun W (hb : Below w.heap.size w W) => alive_any a W (hw.below hb)
  have hX0 := CBox.new ⟨n0, new, depth, sh, lh, ch, sk, lk, ck⟩ w
  have hb0 := new_block w (.cells #[.int .i64 n0, .int .i64 new, .int .i64 depth, .slice sh lh ch, .slice sk lk ck] 25)
  have cL := fun W => long_no hS W
  obtain ⟨g1, g2, k2, _, o0, l0, nw⟩ := hS
  simp only at *
  have cT := fun W => table.new_yes n0 o0 W
  have hts := tab_some
  have d1 : decide (120 < (lb : Int)) = false := decide_eq_false (by omega)
  have d2 : decide (wrap64 (6 * new) < (lk : Int) + lb) = false := decide_eq_false hf
  have hnw : ∀ n1 : Nat, new = n1 → okN n1 → n1 ≤ 32 ∧ lk + lb ≤ 6 * n1 := fun n1 e o => by
    have h1 := nw n1 e o
    subst e
    unfold wrap64 at hf
    omega
  have HNW := Lib.hid hnw
  have HW := Lib.hid hw
  have HH := Lib.hid hH
  have HK := Lib.hid hK
  have HA := Lib.hid hA
  clear hf hw hH hK hA nw hnw
  go_enter Tryz.func4, Tryz.ntmps4
  go_wp2_with (first
    | (go_at_call 6; refine (cA _ hb0).mono ?_; rintro e w1 ⟨rfl, hb1⟩; have ⟨x0, x1, x2, x3, x4⟩ := CBox.all (hX0.keep hb1))
    | (go_at_call 7; refine (cL _).mono ?_; rintro e w2 ⟨rfl, hb2⟩; have ⟨y0, y1, y2, y3, y4⟩ := CBox.all ((hX0.keep hb1).keep hb2))
    | (go_at_call 40; refine (cT _).mono ?_; rintro e w3 ⟨rfl, ht3, hb3⟩))
  have hX3 := ((hX0.keep hb1).keep hb2).keep hb3
  have hbw := under.below_step (under.below_step hb0 hb1) hb2
  have HW1 := Lib.hid (HW.out.below hbw)
  have HH1 := Lib.hid (HH.out.below hbw)
  have HK1 := Lib.hid (HK.out.below hbw)
  have HHb := Lib.hid (show ∀ key, key < lh → hOf lh hz key < 18446744073709551616 from fun key hk => by
    rw [hOf_lt hk]
    obtain ⟨_, _, h, _⟩ := HH1.out key hk
    exact h)
  have HA1 := Lib.hid (HA.out.below hbw)
  have HB1 := Lib.hid (fun W (hb : Below w2.heap.size w2 W) => under.below_step hbw hb)
  have HT3 := Lib.hid ht3
  have HB3 := Lib.hid hb3
  have hXl : w.heap.size < w2.heap.size := by have h1 := hb0.size; have h2 := hb1.size; have h3 := hb2.size; rw [World.size_alloc] at h1 h2; omega
  have HX2 := Lib.hid (fun W (hb : Below w2.heap.size w2 W) => ((hX0.keep hb1).keep hb2).keep hb)
  obtain ⟨z0, z1, z2, z3, z4⟩ := CBox.all hX3
  clear cA cL cT hX0 hb0 hb1 hb2 hb3 hbw HW HH HK HA ht3 x0 x1 x2 x3 x4 y0 y1 y2 y3 y4 hX3 z0 z1 z2 z4 d1 d2
  generalize w.heap.size = X at HX2 z3 hXl ⊢
  go_upto_region 8 with (fail)
  go_cut [7, 8] from 65 to 72 (fun s7 s8 wx => ∃ Bt Bv, s7 = .slice (some ⟨Bt, 0, none⟩) lh lh ∧ s8 = .slice (some ⟨Bv, 0, none⟩) lh lh ∧ Hid (table.Rows Bt Bv lh (fun _ => none) (fun _ => 0) wx ∧ w3.heap.size ≤ Bt ∧ w3.heap.size ≤ Bv ∧ Below w3.heap.size w3 wx))
  case first =>
    as_aux_lemma =>
      have m1 := mk_bools lh (by omega)
      have m2 := mk_u64s lh (by omega)
      go_region_held3 (fun w' => w'.cell? ⟨X, 3, none⟩ = some (.slice sh lh ch))
        (first
          | exact keepc (under.drew_below _) z3
          | exact keepc (new_block _ _) (by assumption)
          | go_keep)
        (fail)
      all_goals (go_wp2_with (fail); go_meet; first | exact ⟨_, _, rfl, rfl, Lib.hid ⟨(table.Rows.new1 w3 lh).below (under.drew_below _), Nat.le_refl _, Nat.le_succ _, under.below_step (two_new w3 _ _) (under.drew_below _)⟩⟩ | exact ⟨_, _, rfl, rfl, Lib.hid ⟨(table.Rows.new2 w3 lh).below (under.drew_below _), Nat.le_succ _, Nat.le_refl _, under.below_step (two_new w3 _ _) (under.drew_below _)⟩⟩)
  case rest =>
    as_aux_lemma =>
      obtain ⟨Bt, Bv, rfl, rfl, hR⟩ := hcut
      have hI : KB a w2 (hOf lh hz) lh (w2.heap.size + 1) w2.heap.size n0 new.toNat Bt Bv 0 (Tb.new n0) (fun _ => none) (fun _ => none) (fun _ => 0) wc := by
        obtain ⟨hr, b1, b2, hb⟩ := hR.out
        have l1 := HT3.out.lt
        have l2 := HT3.out.lb
        refine ⟨lay1_start HW1.out rfl (Tb.Ok.new o0) (HT3.out.below hb) (under.below_step HB3.out hb) (Nat.le_succ _) (Nat.le_refl _), .new o0 _, hr, by show (0 : Int) ≤ 0; omega, by omega, by omega, ?_, ?_⟩ <;> · have := HB3.out.size; omega
      have HI := Lib.hid hI
      have ⟨x0, x1, x2, x3, x4⟩ := CBox.all (HX2.out wc hI.re.bel)
      clear hI hR HT3 HB3
      go_wp2
      generalize w2.heap.size + 1 = T at HI ⊢
      generalize w2.heap.size = B at HI ⊢
      go_loopw [76] (fun i wr => ∃ k : Nat, k ≤ lk ∧ i = .int .i64 k ∧ Hid (∃ t0 F V, KB a w2 (hOf lh hz) lh T B n0 new.toNat Bt Bv k t0 F F V wr ∧ Vals F V)) (fun i _ => lk - (intOf i).toNat)
      case atStart => exact ⟨0, by omega, rfl, Lib.hid ⟨_, _, _, HI.out, fun k v h => (by cases h)⟩⟩
      case round =>
        as_aux_lemma =>
          obtain ⟨k, hk, rfl, HO⟩ := hrel
          rcases Nat.lt_or_ge k lk with hkl | hkl
          · obtain ⟨x, rfl, hx⟩ := HK1.out k hkl
            obtain ⟨t0, F, V, hKB, hV⟩ := HO.out
            have hki : (k : Int) < (lk : Int) := by omega
            have hkw : k + 1 ≤ lk := by omega
            have c0 := hx _ hKB.re.bel
            have hkz : kN (kz k) lh < lh := kN_lt _ g1
            have hzz : hz (kN (kz k) lh) < 18446744073709551616 := by obtain ⟨_, _, h, _⟩ := HH1.out _ hkz; exact h
            have cE := fun W (hb : Below w2.heap.size w2 W) => entry_any ⟨n0, new, depth, sh, lh, ch, some x, lk, ck⟩ hz g1 g2 (kz k) 5 W (HH1.out.below hb)
            have cP := fun W (h : KB a w2 (hOf lh hz) lh T B n0 new.toNat Bt Bv k t0 F F V W) => h.put (by omega) hkz (v := 5) (by rw [hOf_lt hkz]; exact hzz) (by decide)
            rw [hOf_lt hkz] at cP
            simp only at cE
            generalize kN (kz k) lh = ki at *
            generalize hz ki = hh at *
            generalize kz k = zk at *
            have HKB := Lib.hid hKB
            have ⟨y0, y1, y2, y3, y4⟩ := CBox.all (HX2.out wr hKB.re.bel)
            have HV := Lib.hid hV
            clear hx hKB hV HO HI x0 x1 x2 x3 x4
            go_wp2_with (first
              | (go_at_call 9; refine (cE _ HKB.out.re.bel).mono ?_; rintro e w4 ⟨rfl, hb4⟩; have hF4 := HKB.out.read hb4; have hV4 := EBox.new ki 5 hh w4; have hF5 := hF4.read (new_block w4 (.cells #[.int .u64 (ki : Nat), .int .u64 (5 : Nat), .int .u64 (hh : Nat)] 43)); have u0 := hV4.c0; have u1 := hV4.c1; have u2 := hV4.c2))
            have l1 := (hF4.re.at' 0 Nat.one_pos).lt
            have l2 := (hF4.re.at' 0 Nat.one_pos).lb
            have l3 := hF4.rows.lt
            have l4 := hF4.rows.lv
            have l5 : T < w4.heap.size := l1
            have l6 : B < w4.heap.size := l2
            refine (cP _ hF5).mono ?_
            generalize w4.alloc (.cells #[.int .u64 (ki : Nat), .int .u64 (5 : Nat), .int .u64 (hh : Nat)] 43) = w5 at *
            generalize w4.heap.size = E at *
            rintro e w6 ⟨hp6, ⟨b, t6, rfl, h6⟩ | ⟨x6, rfl, h6⟩⟩
            · have hV6 := hV4.past hp6 (by simp; omega)
              have v0 := hV6.c0
              clear hF4 hF5 hV4 hp6 u0 u1 u2 l1 l2 cP cE hb4 HKB
              have hth := h6.rows.th ki hkz
              have hva := h6.rows.va ki hkz
              have hft := h6.rows.ft
              have hfv := h6.rows.fv
              have hne := h6.rows.ne
              have n1 : E ≠ Bt := by omega
              have n2 : E ≠ Bv := by omega
              have H6 := Lib.hid h6
              clear h6
              go_upto_region 15 with (fail)
              go_region_held3 (fun w' => w'.cell? ⟨E, 0, none⟩ = some (.int .u64 (ki : Nat))) (first | exact (World.cell?_setCell_other _ _ _ _ (table.off_b (Ne.symm n1))).trans (by assumption) | exact (World.cell?_setCell_other _ _ _ _ (table.off_b (Ne.symm n2))).trans (by assumption) | go_keep) (fail)
              go_wp2_with (fail)
              go_roundw
              case rel => exact ⟨k + 1, by omega, by simp, Lib.hid ⟨t6, _, _, (H6.out.read (below_drewN' _ _)).done hkz, HV.out.put _ _⟩⟩
              case measure => simp [intOf]; omega
            · clear hF4 hF5 hV4 hp6 u0 u1 u2 l1 l2 cP cE hb4 HKB
              have H6 := Lib.hid h6
              clear h6
              go_wp2_with (fail)
              go_roundw
              case rel => exact ⟨k + 1, by omega, by simp, Lib.hid ⟨t0, _, _, H6.out, HV.out⟩⟩
              case measure => simp [intOf]; omega
          · obtain rfl : k = lk := by omega
            obtain ⟨t0, F, V, hKB, hV⟩ := HO.out
            have ⟨y0, y1, y2, y3, y4⟩ := CBox.all (HX2.out wr hKB.re.bel)
            have hRg := (HW1.out.below hKB.re.bel).six.two.range
            have hbk := hKB.re.bel
            clear HO HI x0 x1 x2 x3 x4
            by_cases hd : 15 < depth
            · as_aux_lemma =>
                have cD := new_deep 0 0 ⟨T, 0, none⟩ depth hd new wr _ hRg
                have hdn := dual_none
                clear hKB hV HNW
                go_wp2_with (go_at_call 42; refine cD.mono ?_; rintro e w4 ⟨rfl, hb4⟩)
                go_ret
                exact ⟨rfl, HB1.out _ (under.below_step hbk hb4)⟩
            · by_cases hn : ∃ n1 : Nat, new = n1 ∧ okN n1
              · obtain ⟨n1, rfl, o1⟩ := hn
                obtain ⟨h32, h6⟩ := HNW.out n1 rfl o1
                have hnp := okN_pos o1
                rw [Int.toNat_natCast] at hKB
                obtain ⟨d, nb, hnb, ld⟩ : ∃ d nb : Nat, ((depth < 0 ∧ nb = 1) ∨ (depth = d ∧ nb = 2)) ∧ d ≤ 15 := by
                  by_cases hneg : depth < 0
                  · exact ⟨0, 1, .inl ⟨hneg, rfl⟩, by omega⟩
                  · exact ⟨depth.toNat, 2, .inr ⟨by omega, rfl⟩, by omega⟩
                have cD := dual.new_yes a w2 wr T B n0 n1 d nb depth (kT t0 n1) hKB.re o0 o1 ld (by omega) hnb (fun j hj => kT_far hj)
                have hds := dual_some
                have HKB := Lib.hid hKB
                have HV := Lib.hid hV
                clear hKB hV HNW hRg hnb z3 hts
                go_wp2_with (fail)
                refine cD.mono ?_
                clear cD
                rintro e w4 ⟨Y, D, fp, rfl, hN, hT, hB, hn0, hD, hb4, hfp, hDe⟩
                clear hDe hT hB
                have hDM := DM.start (c := k) hD (by omega) HKB.out.rep (fun j hj => kT_far hj) HKB.out.len
                have hb5 := new_block w4 (.cells #[.int .i64 0, .int .i64 0, .int .i64 0, .int .i64 0, .int .i64 0, .int .i64 0, .int .i64 0, .bool false] 36)
                have hr4 := HKB.out.rows.below hb4
                have flt := hDM.da.flt
                have hDB : DB a w2 (hOf lh hz) lh Y D n1 d depth 0 (k + 0) (kT t0 n1) F fp w4.heap.size Bt Bv 0 0 F V (w4.alloc (.cells #[.int .i64 0, .int .i64 0, .int .i64 0, .int .i64 0, .int .i64 0, .int .i64 0, .int .i64 0, .bool false] 36)) := by
                  have hbs := hb4.size
                  have r1 := HKB.out.rows.lt
                  have r2 := HKB.out.rows.lv
                  refine ⟨hDM.read hb5, MAt.zero_new w4, hr4.below hb5, fun e => ?_, fun e => ?_, fun e => ?_, ?_, ?_, ?_, HKB.out.ht, HKB.out.hv⟩
                  · have := flt _ e; omega
                  · have h1 := HKB.out.bt
                    rcases hfp _ e with h | h | h <;> omega
                  · have h1 := HKB.out.bv
                    rcases hfp _ e with h | h | h <;> omega
                  · omega
                  · omega
                  · have := hbk.size; omega
                have HDS := Lib.hid (show DS a w2 (hOf lh hz) lh Y D n1 d depth w4.heap.size Bt Bv k 0 0 (w4.alloc (.cells #[.int .i64 0, .int .i64 0, .int .i64 0, .int .i64 0, .int .i64 0, .int .i64 0, .int .i64 0, .bool false] 36)) from ⟨_, _, _, _, _, _, hDB, HV.out, by omega, by omega⟩)
                have cL := hDB.dm.left
                have hsm := hD.small
                obtain ⟨g, hg⟩ : ∃ g, Y.n 0 + (Y.N - 1) * n1 = g := ⟨_, rfl⟩
                rw [hg] at cL hsm
                rw [Nat.sub_zero] at cL
                have HG := Lib.hid hg
                clear y0 y1 y2 y3 y4 hDM hDB flt hr4 hfp hD hN hn0 HKB HV hb4 hb5 hg hbk
                go_wp2_with (go_at_call 36; refine cL.mono ?_; clear cL; rintro e w5 ⟨rfl, hb5⟩)
                have HD5 := Lib.hid (HDS.out.read hb5)
                clear HDS hb5
                generalize w4.heap.size = Bm at *
                go_loopw [124, 16] (fun i s wy => ∃ j q : Nat, j ≤ lb ∧ q ≤ g ∧ i = .int .i64 j ∧ s = .int .i64 q ∧ Hid (DS a w2 (hOf lh hz) lh Y D n1 d depth Bm Bt Bv k q j wy)) (fun i _ _ => lb - (intOf i).toNat)
                case atStart => exact ⟨0, 0, by omega, by omega, rfl, rfl, HD5⟩
                case round =>
                  as_aux_lemma =>
                    obtain ⟨j, q, hj, hq, rfl, rfl, HO⟩ := hrel
                    rcases Nat.lt_or_ge j lb with hjl | hjl
                    · obtain ⟨⟨x, rfl, hcs⟩, b1, b2, b3, b4⟩ := HA1.out j hjl
                      obtain ⟨t, F, fp, p, v, V, hDB, hV, hp, hv⟩ := HO.out
                      obtain ⟨c0, c1, c2⟩ := hcs _ hDB.bel
                      have hki : (j : Int) < (lb : Int) := by omega
                      have hkw : j + 1 ≤ lb := by omega
                      have hkz : kN (az j).key lh < lh := kN_lt _ g1
                      have hzz : hz (kN (az j).key lh) < 18446744073709551616 := by obtain ⟨_, _, h, _⟩ := HH1.out _ hkz; exact h
                      have cE := fun W v (hb : Below w2.heap.size w2 W) => entry_any ⟨n0, n1, depth, sh, lh, ch, sk, k, ck⟩ hz g1 g2 (az j).key v W (HH1.out.below hb)
                      have hvn := uN_lt (az j).n
                      have eH : hOf lh hz (kN (az j).key lh) = hz (kN (az j).key lh) := hOf_lt hkz
                      simp only at cE
                      generalize kN (az j).key lh = ki at *
                      generalize hz ki = hh at *
                      generalize (az j).kind = kd at *
                      generalize (az j).key = ky at *
                      have e1 := uN_cast (az j).n
                      generalize uN (az j).n = vn at *
                      generalize (az j).n = nn at *
                      have HE := Lib.hid eH
                      have HDB := Lib.hid hDB
                      have HV := Lib.hid hV
                      have hbA := new_block wr (.cells #[.int .i64 kd, .int .i64 ky, .int .i64 nn] 40)
                      have ⟨y0, y1, y2, y3, y4⟩ := CBox.all (HX2.out (wr.alloc (.cells #[.int .i64 kd, .int .i64 ky, .int .i64 nn] 40)) (under.below_step hDB.bel hbA))
                      have cE := cE _ vn (under.below_step hDB.bel hbA)
                      have ⟨a0, a1, a2⟩ := act3 kd ky nn wr
                      clear hDB hV HO hcs b1 b2 b3 b4 eH HD5
                      go_upto_block 4 with (first
                        | (go_at_call 9; refine cE.mono ?_; clear cE; rintro e w4 ⟨rfl, hb4⟩; have hF4 := (HDB.out.read hbA).read hb4; have hV4 := EBox.new ki vn hh w4; have hF5 := hF4.read (new_block w4 (.cells #[.int .u64 (ki : Nat), .int .u64 (vn : Nat), .int .u64 (hh : Nat)] 43)); have x0 := keepc (new_block w4 (.cells #[.int .u64 (ki : Nat), .int .u64 (vn : Nat), .int .u64 (hh : Nat)] 43)) (keepc hb4 a0); have hz4 := hb4.size))
                      have fE := hF4.fresh (Nat.le_refl w4.heap.size)
                      have HF7 := Lib.hid hF5
                      have HV7 := Lib.hid hV4
                      have lE := hV4.lt
                      clear y0 y1 y2 y3 y4 a0 a1 a2 hF4 hF5 hV4 hb4 hz4 hbA e1 c0 c1 c2 cE
                      generalize w4.alloc (.cells #[.int .u64 (ki : Nat), .int .u64 (vn : Nat), .int .u64 (hh : Nat)] 43) = w7 at *
                      generalize w4.heap.size = E at *
                      generalize wr.heap.size = A at *
                      clear HDB
                      go_cut [16, 21, 22, 23, 24] from 125 to 223 (fun s16 s21 s22 s23 s24 wx => ∃ q' : Nat, q' ≤ g ∧ s16 = .int .i64 q' ∧ Hid (DS a w2 (hOf lh hz) lh Y D n1 d depth Bm Bt Bv k q' (j + 1) wx))
                      case first =>
                        as_aux_lemma =>
                          by_cases k0 : kd = 0
                          · subst k0
                            have cP := fun W (h : DB a w2 (hOf lh hz) lh Y D n1 d depth q (k + j) t F fp Bm Bt Bv p v F V W) => h.put (by omega) HHb.out (by omega) hkz hvn (by omega)
                            rw [HE.out] at cP
                            have r0 := Under.cell HV7.out.c0
                            have r1 := Under.cell HV7.out.c1
                            have r2 := Under.cell HV7.out.c2
                            go_upto_region 30 with (fail)
                            refine one.wp_region_one 4 _ (by kernel_rfl) (by kernel_rfl) rfl ?_
                            simp only [List.take_succ_cons, List.take_zero, List.drop_succ_cons, List.drop_zero]
                            repeat (quiet_step (first
                              | (go_at_call 13; (with_reducible refine under_call (probing_any _ _ _)))))
                            refine wpQuiet_nil ?_
                            intro y Kc hKc
                            have cPy := cP _ (HF7.out.read y.below)
                            have hV8 := HV7.out.keep y.below
                            clear r0 r1 r2 cP
                            generalize y.W = w8 at *
                            go_simp
                            refine cPy.mono ?_
                            clear cPy
                            have hl8 := hV8.lt
                            rintro e w9 ⟨hp9, p9, t9, q9, ⟨rfl, h9⟩ | ⟨hr, hFn, ⟨x9, rfl⟩, h9⟩⟩
                            · have hV9 := hV8.past hp9 (fun e => by rcases List.mem_cons.1 e with e | e; exact fE.2.2.1 e; exact fE.2.1 e)
                              go_simp
                              refine hKc _ _ ?_
                              clear hKc Kc hp9 hV8
                              repeat (quiet_step (fail))
                              refine wpQuiet_nil ?_
                              intro y3
                              have h10 := h9.read y3.below
                              have hV10 := hV9.keep y3.below
                              clear hV9 h9
                              generalize y3.W = w10 at *
                              have v0 := hV10.c0
                              have v1 := hV10.c1
                              have hth := h10.rows.th ki hkz
                              have hva := h10.rows.va ki hkz
                              have hft := h10.rows.ft
                              have hfv := h10.rows.fv
                              have hne := h10.rows.ne
                              have n1' : E ≠ Bt := fE.2.2.2.1
                              have n2' : E ≠ Bv := fE.2.2.2.2
                              have H10 := Lib.hid h10
                              clear h10
                              cases hFk : F ki with
                              | none =>
                                rw [hFk] at hth
                                simp only [Option.isSome_none, Bool.not_false] at hth ⊢
                                go_upto_region 34 with (fail)
                                go_region_held3 (fun w' => w'.cell? ⟨E, 0, none⟩ = some (.int .u64 (ki : Nat)) ∧ w'.cell? ⟨E, 1, none⟩ = some (.int .u64 (vn : Nat))) (first | exact ⟨(World.cell?_setCell_other _ _ _ _ (table.off_b (Ne.symm n1'))).trans (And.left (by assumption)), (World.cell?_setCell_other _ _ _ _ (table.off_b (Ne.symm n1'))).trans (And.right (by assumption))⟩ | exact ⟨(World.cell?_setCell_other _ _ _ _ (table.off_b (Ne.symm n2'))).trans (And.left (by assumption)), (World.cell?_setCell_other _ _ _ _ (table.off_b (Ne.symm n2'))).trans (And.right (by assumption))⟩ | go_keep) (fail)
                                go_wp2_with (fail)
                                go_meet
                                case rel => exact ⟨q, hq, rfl, Lib.hid ⟨t9, _, fp, p9, v, _, (H10.out.read (below_drewN' _ _)).done0 hkz, HV.out.put _ _, by omega, hv⟩⟩
                              | some u =>
                                rw [hFk] at hth
                                simp only [Option.isSome_some, Bool.not_true] at hth ⊢
                                go_upto_region 34 with (fail)
                                go_region_held3 (fun w' => w'.cell? ⟨E, 0, none⟩ = some (.int .u64 (ki : Nat)) ∧ w'.cell? ⟨E, 1, none⟩ = some (.int .u64 (vn : Nat))) (first | exact ⟨(World.cell?_setCell_other _ _ _ _ (table.off_b (Ne.symm n1'))).trans (And.left (by assumption)), (World.cell?_setCell_other _ _ _ _ (table.off_b (Ne.symm n1'))).trans (And.right (by assumption))⟩ | exact ⟨(World.cell?_setCell_other _ _ _ _ (table.off_b (Ne.symm n2'))).trans (And.left (by assumption)), (World.cell?_setCell_other _ _ _ _ (table.off_b (Ne.symm n2'))).trans (And.right (by assumption))⟩ | go_keep) (fail)
                                go_wp2_with (fail)
                                go_meet
                                case rel => exact ⟨q, hq, rfl, Lib.hid ⟨t9, _, fp, p9, v, _, (H10.out.read (below_drewN' _ _)).done0 hkz, HV.out.put _ _, by omega, hv⟩⟩
                            · have hV9 := hV8.past hp9 (fun e => by rcases List.mem_cons.1 e with e | e; exact fE.2.2.1 e; exact fE.2.1 e)
                              go_simp
                              refine hKc _ _ ?_
                              clear hKc Kc hp9 hV8
                              repeat (quiet_step (fail))
                              refine wpQuiet_nil ?_
                              intro y3
                              have h10 := h9.read y3.below
                              have hV10 := hV9.keep y3.below
                              clear hV9 h9
                              generalize y3.W = w10 at *
                              have v0 := hV10.c0
                              have hth := h10.rows.th ki hkz
                              have cR := h10.dm.da.ready
                              rw [hr] at cR
                              rw [hFn] at hth
                              simp only [Option.isSome_none] at hth
                              have H10 := Lib.hid h10
                              clear h10
                              go_wp2_with (go_at_call 37; refine cR.mono ?_; rintro e w11 ⟨rfl, rfl⟩)
                              go_meet
                              case rel => exact ⟨q, hq, rfl, Lib.hid ⟨t9, F, fp, p9, v, V, H10.out, HV.out, by omega, hv⟩⟩
                          · by_cases k2 : kd = 2
                            · subst k2
                              obtain ⟨ent, hent⟩ : ∃ e, entD t ki hh (js (rdy Y n1 q) Y.N d hh) = e := ⟨_, rfl⟩
                              have hev : ∀ u, F ki = some u → ent.2.1 = u := by
                                rw [← hent, ← HE.out]; exact HF7.out.entd ki
                              have cD := fun (n : Nat) (W : World) (h : GD a w2 (hOf lh hz) lh Y D n1 d depth q (k + j) t F fp Bm Bt Bv p v V ki n W) => GD.call ⟨HF7.out.hm, HF7.out.nm⟩ (by omega) HHb.out hkz (by omega) n h
                              have hxg := HF7.out.xg (key := ki)
                              rw [HE.out, hent] at cD
                              have lB := HF7.out.ma.lt
                              have eB : E ∉ Bm :: fp := fun e => by rcases List.mem_cons.1 e with e | e; exact fE.2.2.1 e; exact fE.2.1 e
                              obtain ⟨ek, ev, eh⟩ := ent
                              simp only at cD hev
                              have HEV := Lib.hid hev
                              clear hent hev
                              go_upto_region 36 with (fail)
                              have hxd : XD w7 (Bm :: fp) (GD a w2 (hOf lh hz) lh Y D n1 d depth q (k + j) t F fp Bm Bt Bv p v V ki) ek ev eh ⟨0, none, false⟩ w7.drew := XD.start (HF7.out.read (under.drew_below _)) (Past.of (under.drew_below _))
                              have q0 : ∀ y : movex.Un (XD w7 (Bm :: fp) (GD a w2 (hOf lh hz) lh Y D n1 d depth q (k + j) t F fp Bm Bt Bv p v V ki) ek ev eh), y.W.cell? ⟨E, 0, none⟩ = some (.int .u64 (ki : Nat)) := fun y => y.h.past.cell HV7.out.c0 eB
                              have q2 : ∀ y : movex.Un (XD w7 (Bm :: fp) (GD a w2 (hOf lh hz) lh Y D n1 d depth q (k + j) t F fp Bm Bt Bv p v V ki) ek ev eh), y.W.cell? ⟨E, 2, none⟩ = some (.int .u64 (hh : Nat)) := fun y => y.h.past.cell HV7.out.c2 eB
                              haveI : Nonempty (movex.Un (XD w7 (Bm :: fp) (GD a w2 (hOf lh hz) lh Y D n1 d depth q (k + j) t F fp Bm Bt Bv p v V ki) ek ev eh)) := ⟨⟨_, _, hxd⟩⟩
                              refine (wpIn_wide (n := 3)).1 ?_
                              refine movex.region (D := XD w7 (Bm :: fp) (GD a w2 (hOf lh hz) lh Y D n1 d depth q (k + j) t F fp Bm Bt Bv p v V ki) ek ev eh) (XM (.agg #[.pointer (some ⟨Bm, 0, none⟩)]) (.tuple #[group.entV ek ev eh, .bool (F ki).isSome]) 7 11 12) 12 14 [false, false, true, false, false, false, false, true, false, false, false, true, true, false] [(2, 11), (7, 11)] (by kernel_rfl) (by kernel_rfl) (by kernel_rfl) (fun k s _ => XM.some _ _ _ _ _ k s) (fun i j hij => by
                                simp only [List.mem_cons, Prod.mk.injEq, List.not_mem_nil, or_false] at hij
                                rcases hij with ⟨rfl, rfl⟩ | ⟨rfl, rfl⟩
                                · exact XM.free _ _ _ _ _ _ (by decide) (by decide)
                                · exact XM.free _ _ _ _ _ _ (by decide) (by decide)) ⟨0, none, false⟩ hxd ?_
                              simp only [List.take_succ_cons, List.take_zero, List.drop_succ_cons, List.drop_zero]
                              iterate 2
                                refine movex.pure_step (fun _ _ _ => trivial) (fun K hK => ?_)
                                go_simp
                                refine hK _ ?_
                                clear hK K
                              refine movex.move_step (fun _ _ _ => trivial) (by kernel_rfl) (fun sd wd hd => ?_) ?_
                              · go_simp
                                refine callsIn_wide.2 ((probing_any Bm 0 wd).mono ?_)
                                rintro e' w' ⟨rfl, hb'⟩
                                exact ⟨_, rfl, sd, ⟨rfl, rfl⟩, hd.read hxg hb'⟩
                              rintro _ _ ⟨rfl, rfl⟩ K hK
                              refine hK _ ?_
                              clear hK K
                              iterate 4
                                refine movex.pure_step (fun _ _ _ => trivial) (fun K hK => ?_)
                                go_simp
                                refine hK _ ?_
                                clear hK K
                              refine movex.move_step (fun _ _ _ => trivial) (by kernel_rfl) (fun sd wd hd => ?_) ?_
                              · go_simp
                                refine callsIn_wide.2 ((cD sd.n wd hd.g).mono ?_)
                                rintro e' w' ⟨hp', v', rfl, hv', hg'⟩
                                exact ⟨_, rfl, ⟨sd.n + 1, sd.al, sd.st⟩, ⟨hv', rfl⟩, hd.next hxg hg' hp'⟩
                              rintro _ _ ⟨hv9, rfl⟩ K hK
                              obtain rfl := hv9 rfl
                              clear hv9
                              refine hK _ ?_
                              clear hK K
                              iterate 3
                                refine movex.pure_step (fun _ _ _ => trivial) (fun K hK => ?_)
                                go_simp
                                refine hK _ ?_
                                clear hK K
                              refine movex.move_step (fun _ _ _ => trivial) (by kernel_rfl) (fun sd wd hd => ?_) ?_
                              · go_simp
                                exact ⟨_, ⟨_, rfl, rfl⟩, hd.put hxg⟩
                              rintro _ _ ⟨b9, rfl, rfl⟩ K hK
                              refine hK _ ?_
                              clear hK K
                              refine movex.last_step (fun _ _ _ => trivial) (by kernel_rfl) (fun wd hd => ?_) ?_
                              · obtain ⟨_, x', y', z', hB, _⟩ := hd.box b9 rfl
                                have g0 := hB.c0
                                have g1 := hB.c1
                                have g2 := hB.c2
                                have gf := hB.fz
                                go_simp
                                exact ⟨_, ⟨rfl, rfl⟩, hd.set hxg rfl⟩
                              rintro _ _ ⟨rfl, rfl⟩ K hK
                              refine hK _ ?_
                              clear hK K
                              iterate 1
                                refine movex.pure_step (fun _ _ _ => trivial) (fun K hK => ?_)
                                go_simp
                                refine hK _ ?_
                                clear hK K
                              refine movex.nil_step ?_
                              intro w9 hd9
                              obtain ⟨hlo, x', y', z', hX9, h9⟩ := hd9.box b9 rfl
                              obtain ⟨rfl, rfl, rfl⟩ := h9 rfl
                              obtain ⟨p9, t9, q9, hD9⟩ := (show ∃ p' t', p' ≤ p + 128 ∧ DB a w2 (hOf lh hz) lh Y D n1 d depth q (k + j) t' (table.set F ki none) fp Bm Bt Bv p' v F V w9 from hd9.g)
                              have hV9 := HV7.out.past hd9.past eB
                              clear hd9 h9 hxd q0 q2 this cD hxg
                              have u0 := hV9.c0
                              have u1 := hX9.c1
                              have hth := hD9.rows.th ki hkz
                              have hva := hD9.rows.va ki hkz
                              have hft := hD9.rows.ft
                              have H9 := Lib.hid hD9
                              clear hD9
                              gi_wp2
                              cases hFk : F ki with
                              | none =>
                                rw [hFk] at hth
                                simp only [Option.isSome_none] at hth ⊢
                                clear hva u1
                                go_upto_region 37 with (fail)
                                go_quiet (fail)
                                go_wp2_with (fail)
                                go_meet
                                case rel => exact ⟨q, hq, rfl, Lib.hid ⟨t9, _, fp, p9, v, _, ((H9.out.read (below_drewN' _ _)).done1 hkz).more, HV.out.del _, by omega, hv⟩⟩
                              | some u =>
                                have e1 := HEV.out u hFk
                                have e2 := HV.out ki u hFk
                                rw [hFk] at hth
                                simp only [Option.isSome_some] at hth ⊢
                                rw [e1] at u1
                                rw [e2] at hva
                                go_upto_region 37 with (fail)
                                go_quiet (fail)
                                go_wp2_with (fail)
                                go_meet
                                case rel => exact ⟨q, hq, rfl, Lib.hid ⟨t9, _, fp, p9, v, _, ((H9.out.read (below_drewN' _ _)).done1 hkz).more, HV.out.del _, by omega, hv⟩⟩
                            · have e0 : (kd == 0) = false := beq_eq_false_iff_ne.2 k0
                              have e2 : (kd == 2) = false := beq_eq_false_iff_ne.2 k2
                              rcases Nat.lt_or_ge q g with hql | hql
                              · have cS := HF7.out.step (by omega) HHb.out (by omega) (by rw [HG.out]; exact hql) (by omega) (by omega) (by omega)
                                have hqi : IntKind.i64.wrap ((q : Int) + 1) = (q : Int) + 1 := IntWalk.i64_in _ (by omega)
                                go_wp2_with (go_at_call 31; refine cS.mono ?_; rintro e w8 ⟨rfl, v8, t8, fp8, hv8, hp8, hf8, h8⟩)
                                go_meet
                                case rel => exact ⟨q + 1, hql, by simp, DS.up ⟨t8, F, fp8, p, v8, V, h8, HV.out, hp, by omega⟩ (Below.refl _ _)⟩
                              · have cS := HF7.out.dm.stop (by rw [HG.out]; omega) (some ⟨Bm, 0, none⟩)
                                go_wp2_with (go_at_call 31; refine cS.mono ?_; rintro e w8 ⟨rfl, hb8⟩)
                                go_meet
                                case rel => exact ⟨q, hq, rfl, DS.up ⟨t, F, fp, p, v, V, HF7.out, HV.out, hp, hv⟩ hb8⟩
                      case rest =>
                        as_aux_lemma =>
                          obtain ⟨q', hq', rfl, HC⟩ := hcut
                          obtain ⟨t', F', fp', p', v', V', hDB, hV, hp', hv'⟩ := HC.out
                          have ⟨y0, y1, y2, y3, y4⟩ := CBox.all (HX2.out wc hDB.bel)
                          have HD8 := Lib.hid hDB
                          clear hDB HC
                          go_wp2
                          go_loopw [227] (fun i wx => ∃ m : Nat, m ≤ lh ∧ i = .int .i64 m ∧ Hid (DB a w2 (hOf lh hz) lh Y D n1 d depth q' (k + (j + 1)) t' F' fp' Bm Bt Bv p' v' F' V' wx)) (fun i _ => lh - (intOf i).toNat)
                          case atStart => exact ⟨0, by omega, rfl, HD8⟩
                          case round =>
                            as_aux_lemma =>
                              obtain ⟨m, hm', rfl, HJ⟩ := hrel
                              rcases Nat.lt_or_ge m lh with hml | hml
                              · have hmi : (m : Int) < (lh : Int) := by omega
                                obtain ⟨xh, rfl, hzm, hx⟩ := HH1.out m hml
                                have cF := HJ.out.dm.find (by omega) HHb.out hml
                                rw [hOf_lt hml] at cF
                                have hwm := u64_small m (by omega)
                                have ⟨y0, y1, y2, y3, y4⟩ := CBox.all (HX2.out wr HJ.out.bel)
                                have c0 := hx _ HJ.out.bel
                                generalize hz m = hh' at *
                                clear hx
                                go_upto_region 44 with (first
                                  | (go_at_call 18; refine cF.mono ?_; clear cF; rintro e w9 ⟨ek, ev, eh, rfl, hev, hb9⟩))
                                have h9 := HJ.out.read hb9
                                have h10 := h9.read (new_block w9 (.cells #[.int .u64 (ek : Nat), .int .u64 (ev : Nat), .int .u64 (eh : Nat)] 43))
                                have hX9 := EBox.new ek ev eh w9
                                clear h9 hb9 y0 y1 y2 y3 y4
                                generalize w9.alloc (.cells #[.int .u64 (ek : Nat), .int .u64 (ev : Nat), .int .u64 (eh : Nat)] 43) = w10 at *
                                generalize w9.heap.size = E9 at *
                                have hth := h10.rows.th m hml
                                have hva := h10.rows.va m hml
                                have u1 := hX9.c1
                                have H10 := Lib.hid h10
                                clear h10 hX9
                                cases hFm : F' m with
                                | none =>
                                  rw [hFm] at hth
                                  simp only [Option.isSome_none] at hth ⊢
                                  clear hev hva u1
                                  go_quiet (fail)
                                  go_wp2
                                  go_roundw
                                  case rel => exact ⟨m + 1, by omega, by simp, Lib.hid (H10.out.read (below_drewN' _ _))⟩
                                  case measure => simp [intOf]; omega
                                | some u =>
                                  have e1 := hev u hFm
                                  have e2 := hV m u hFm
                                  rw [hFm] at hth
                                  simp only [Option.isSome_some] at hth ⊢
                                  rw [e1] at u1
                                  rw [e2] at hva
                                  clear hev
                                  go_quiet (fail)
                                  go_wp2
                                  go_roundw
                                  case rel => exact ⟨m + 1, by omega, by simp, Lib.hid (H10.out.read (below_drewN' _ _))⟩
                                  case measure => simp [intOf]; omega
                              · obtain rfl : m = lh := by omega
                                have cL := HJ.out.dm.left
                                rw [HG.out] at cL
                                have cAl := fun W (h : DB a w2 (hOf m hz) m Y D n1 d depth q' (k + (j + 1)) t' F' fp' Bm Bt Bv p' v' F' V' W) => all_mk Bm p' v' q' W h.ma
                                have hsub : ((g - q' : Nat) : Int) = (g : Int) - (q' : Int) := by omega
                                rw [hsub] at cL
                                have hsw : wrap64 ((g : Int) - (q' : Int)) = (g : Int) - (q' : Int) := by unfold wrap64; omega
                                have hf2 := fld2
                                go_wp2_with (first
                                  | (go_at_call 36; refine cL.mono ?_; clear cL; rintro e w9 ⟨rfl, hb9⟩; have HJ9 := Lib.hid (HJ.out.read hb9))
                                  | (go_at_call 35; refine (cAl _ HJ9.out).mono ?_; clear cAl; rintro e w10 ⟨rfl, hb10⟩; have HJ10 := Lib.hid (HJ9.out.read hb10)))
                                go_roundw
                                case rel => exact ⟨j + 1, q', by omega, hq', by simp, rfl, Lib.hid ⟨_, _, _, _, _, _, HJ10.out, hV, hp', hv'⟩⟩
                                case measure => simp [intOf]; omega
                    · obtain rfl : j = lb := by omega
                      go_wp2
                      go_loopw [16] (fun s wx => ∃ q : Nat, q ≤ g ∧ s = .int .i64 q ∧ Hid (DS a w2 (hOf lh hz) lh Y D n1 d depth Bm Bt Bv k q j wx)) (fun s _ => g - (intOf s).toNat)
                      case atStart => exact ⟨q, hq, rfl, HO⟩
                      case round =>
                        as_aux_lemma =>
                          obtain ⟨q, hq, rfl, HO⟩ := hrel
                          obtain ⟨t, F, fp, p, v, V, hDB, hV, hp, hv⟩ := HO.out
                          rcases Nat.lt_or_ge q g with hql | hql
                          · have cS := hDB.step (by omega) HHb.out (by omega) (by rw [HG.out]; exact hql) (by omega) (by omega) (by omega)
                            have HDB := Lib.hid hDB
                            have hqi : IntKind.i64.wrap ((q : Int) + 1) = (q : Int) + 1 := IntWalk.i64_in _ (by omega)
                            have dgt : decide ((g : Int) < (q : Int) + 1) = false := decide_eq_false (by omega)
                            clear hDB HO HD5
                            go_wp2_with (go_at_call 31; refine cS.mono ?_; rintro e w8 ⟨rfl, v8, t8, fp8, hv8, hp8, hf8, h8⟩)
                            go_roundw
                            case rel => exact ⟨q + 1, hql, by simp, Lib.hid ⟨t8, F, fp8, p, v8, V, h8, hV, hp, by omega⟩⟩
                            case measure => simp [intOf]; omega
                          · obtain rfl : q = g := by omega
                            have cS := hDB.dm.stop HG.out.symm (some ⟨Bm, 0, none⟩)
                            have HDM := Lib.hid hDB.dm
                            clear hDB HO HD5 hV
                            go_wp2_with (go_at_call 31; refine cS.mono ?_; clear cS; rintro e w8 ⟨rfl, hb8⟩; have h8 := HDM.out.read hb8; have cTk := h8.da.take_yes HG.out.symm)
                            refine cTk.mono ?_
                            clear cTk hb8
                            rintro e w9 ⟨GU, cU, rfl, hgu, nf, nt, hDt, hp9⟩
                            have hrd : rdy Y n1 q = true := decide_eq_true (by have := HG.out; omega)
                            have h0 : (t 0).len = 0 := by
                              obtain ⟨M, hs⟩ := h8.du
                              have hN := h8.da.N
                              have ho := h8.off hrd
                              have hre := h8.da.re
                              rw [hrd] at hre
                              have e0 : (t 0).n = Y.n 0 := hre.tn 0 (by show 0 < Y.N; omega)
                              have e := HG.out
                              rw [show q - (Y.N - 1) * n1 = (t 0).n by omega] at ho
                              exact Off.none ho (hs.rep 0 (by omega))
                            have hiv : ∀ i, i < Y.N → Inv (hOf lh hz) (t i) := fun i hi => by
                              obtain ⟨M, hs⟩ := h8.du
                              exact (hs.rep i hi).rep.1
                            have hNN := h8.da.N
                            have hok : ∀ i, i < Y.N → (t i).Ok := fun i hi => (hiv i hi).ok
                            have hls := lenS_le hok
                            have HIV := Lib.hid hiv
                            have HLS := Lib.hid hls
                            have HL := Lib.hid (show DAt a w2 Y D n1 d depth q true t fp w9 ∧ ∀ m, m < Y.N - 1 → w9.cell? ⟨GU, m, none⟩ = some (.pointer (some ⟨Y.T (m + 1), 0, none⟩)) from ⟨hDt, fun m hm => hgu (m + 1) (by omega) (by omega)⟩)
                            have HRD := Lib.hid hrd
                            have H0 := Lib.hid h0
                            clear h8 hgu nf nt hDt hp9 hrd h0 hiv hok hls HDM
                            obtain ⟨nb, hnb⟩ : ∃ nb, Y.N - 1 = nb := ⟨_, rfl⟩
                            have HNB := Lib.hid (show Y.N = nb + 1 by omega)
                            have hnb2 : nb ≤ 2 := by omega
                            rw [hnb] at HL ⊢
                            clear hnb hNN
                            go_wp2
                            go_loopw [291, 29] (fun i s wx => ∃ m : Nat, m ≤ nb ∧ i = .int .i64 m ∧ s = .int .i64 (lenS t (m + 1)) ∧ Hid (DAt a w2 Y D n1 d depth q true t fp wx ∧ ∀ m, m < nb → wx.cell? ⟨GU, m, none⟩ = some (.pointer (some ⟨Y.T (m + 1), 0, none⟩)))) (fun i _ _ => nb - (intOf i).toNat)
                            case atStart => exact ⟨0, by omega, rfl, by rw [show lenS t (0 + 1) = 0 + (t 0).len from rfl, H0.out]; rfl, HL⟩
                            case round =>
                              as_aux_lemma =>
                                obtain ⟨m, hm', rfl, rfl, HJ⟩ := hrel
                                rcases Nat.lt_or_ge m nb with hml | hml
                                · have hmi : (m : Int) < (nb : Int) := by omega
                                  have c0 := HJ.out.2 m hml
                                  have hadd : (⟨GU, 0, none⟩ : Addr).add m = ⟨GU, m, none⟩ := by rw [add_at, Nat.zero_add]
                                  have hre := HJ.out.1.re
                                  rw [HRD.out] at hre
                                  have hi : m + 1 < Y.N := by have := HNB.out; omega
                                  have cLn := len_any (Y.T (m + 1)) (Y.B (m + 1)) (t (m + 1)) wr (hre.at' (m + 1) hi)
                                  have cCk := sound.check_any (hre.rdL (i := m + 1) (L := .nil) (m := Mt.zero) hi trivial (fun b hb => by cases hb)) (HIV.out _ hi)
                                  have b1 := HLS.out (m + 1) (by omega)
                                  have b2 := HLS.out (m + 1 + 1) (by omega)
                                  have el : lenS t (m + 1 + 1) = lenS t (m + 1) + (t (m + 1)).len := rfl
                                  have ew : IntKind.i64.wrap (lenS t (m + 1) + (t (m + 1)).len) = lenS t (m + 1 + 1) := by rw [el] at b2 ⊢; exact IntWalk.i64_in _ (by omega)
                                  clear hre hi el b1 b2
                                  generalize lenS t (m + 1) = x at *
                                  obtain ⟨x', hx'⟩ : ∃ x', lenS t (m + 1 + 1) = x' := ⟨_, rfl⟩
                                  rw [hx'] at ew
                                  have HX' := Lib.hid hx'
                                  clear hx'
                                  generalize (t (m + 1)).len = y at *
                                  simp only [show (cut Y true).T = Y.T from rfl] at cCk
                                  go_wp2_with (first
                                    | (go_at_call 43; refine cLn.mono ?_; rintro e w10 ⟨rfl, rfl⟩)
                                    | (go_at_call 44; refine cCk.mono ?_; rintro e w11 ⟨rfl, hb11⟩))
                                  go_roundw
                                  case rel => exact ⟨m + 1, by omega, by simp, by rw [HX'.out], Lib.hid ⟨HJ.out.1.read hb11, fun m hm => keepc hb11 (HJ.out.2 m hm)⟩⟩
                                  case measure => simp [intOf]; omega
                                · obtain rfl : m = nb := by omega
                                  have cE := HJ.out.1.len
                                  rw [HRD.out, show (cut Y true).N = Y.N from rfl, HNB.out] at cE
                                  generalize lenS t (m + 1) = x at *
                                  have HB := HJ.out.1.re.bel
                                  clear HJ
                                  go_wp2_with (go_at_call 38; refine cE.mono ?_; rintro e w10 ⟨rfl, rfl⟩)
                                  go_ret
                                  exact ⟨rfl, HB1.out _ HB⟩
              · as_aux_lemma =>
                  have cD := new_far T B t0 depth (by omega) new hn wr (hKB.re.at' 0 Nat.one_pos) _ hRg
                  have hdn := dual_none
                  clear hKB hV HNW
                  go_wp2_with (go_at_call 42; refine cD.mono ?_; rintro e w4 ⟨rfl, hb4⟩)
                  go_ret
                  exact ⟨rfl, HB1.out _ (under.below_step hbk hb4)⟩
end Go.Proofs.YteedbnoefnlidaaGreatDoor.dual

/-! ### DualFunction: the law, of every argument. -/
namespace Go.Proofs.YteedbnoefnlidaaGreatDoor.dual
open Go.ChangeShapes Go.WideShapes Go.ChangeAt Go.RowKit Go.Shelf swar under trap meter group probe lens tail call table evac

theorem function_law (a : String → Addr) (old new depth : Int) (sh : Option Addr) (lh ch : Nat) (sk : Option Addr) (lk ck : Nat) (s2 : Option Addr) (lb cb : Nat) (hz : Nat → Nat) (kz : Nat → Int) (az : Nat → Ac) (w : World) (hw : Bq a w) (hH : HashAt sh lh w hz) (hK : IntsAt sk lk w kz) (hA : ActAt s2 lb w az) :
    Calls Tryz.prog 4 #[.agg #[.int .i64 old, .int .i64 new, .int .i64 depth, .slice sh lh ch, .slice sk lk ck], .slice s2 lb cb] w fun e w' => e = .returned (.bool true) ∧ Below w.heap.size w w' := by
  by_cases hl : ∃ n0, Short ⟨old, new, depth, sh, lh, ch, sk, lk, ck⟩ n0
  · obtain ⟨n0, hS⟩ := hl
    by_cases hm : 120 < lb
    · exact fun_more a ⟨old, new, depth, sh, lh, ch, sk, lk, ck⟩ s2 lb cb n0 hS hm w hw
    · by_cases hf : wrap64 (6 * new) < (lk : Int) + lb
      · exact fun_full a ⟨old, new, depth, sh, lh, ch, sk, lk, ck⟩ s2 lb cb n0 hS hm hf w hw
      · obtain rfl : old = n0 := hS.e0
        exact fun_few a n0 new depth sh lh ch sk lk ck s2 lb cb hS hm hf hz kz az w hw hH hK hA
  · exact fun_long a ⟨old, new, depth, sh, lh, ch, sk, lk, ck⟩ s2 lb cb hl w hw
end Go.Proofs.YteedbnoefnlidaaGreatDoor.dual
