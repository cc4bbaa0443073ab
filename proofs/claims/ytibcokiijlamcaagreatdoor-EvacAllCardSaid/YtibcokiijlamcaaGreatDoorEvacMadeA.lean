/- evac: a case with two targets is made. -/
import Derived.Test.YtibcokiijlamcaaGreatDoorEvacMp
import Derived.LoopTactic
namespace Go.Proofs.YtibcokiijlamcaaGreatDoor.evac
open Go.ChangeShapes Go.WideShapes Go.ChangeAt Go.RowKit Go.Shelf swar under trap meter group probe lens tail call table
attribute [local go_sem] Oper.semAt_some stage.pureUpon move.stepUpon
set_option linter.unusedSimpArgs false
set_option linter.unusedVariables false

set_option maxRecDepth 100000 in
set_option maxHeartbeats 8000000 in
theorem made_two (a : String → Addr) (n0 n1 d : Nat) (sh : Option Addr) (lh ch : Nat) (sk : Option Addr) (lk ck : Nat) (sm : Option Addr) (lm cm : Nat) (hS : Short ⟨n0, n1, d, true, sh, lh, ch, sk, lk, ck, sm, lm, cm⟩ n0 n1 d) (hz : Nat → Nat) (ks ms : Nat → Int) (w : World) (hw : Bq a w) (hH : HashAt sh lh w hz) (hK : IntsAt sk lk w ks) (hM : IntsAt sm lm w ms) :
    Calls Tryz.prog 9 #[.agg #[.int .i64 (n0 : Nat), .int .i64 (n1 : Nat), .int .i64 (d : Nat), .bool true, .slice sh lh ch, .slice sk lk ck, .slice sm lm cm]] w fun e w' => ∃ (Y : Lay) (V A E GE cA cE : Nat) (t : Nat → Tb), e = .returned (.tuple #[.pointer (some ⟨V, 0, none⟩), .slice (some ⟨A, 0, none⟩) 3 cA, .pointer (some ⟨E, 0, none⟩)]) ∧ 3 ≤ cA ∧ Y.N = 3 ∧ Made a w Y V A E GE cE d n0 n1 t w' ∧ Reach hz lh Y.N d (news Y) true (lk + lm) t := by
  obtain ⟨i0, hi0, hq0, hq1, hq2⟩ := info_parts infoTab
  obtain ⟨j0, hj0, hr0, hr1, hr2⟩ := info_parts infoRef
  have hts := tab_some
  have hes := ev_some
  have hX0 := CBox.new ⟨n0, n1, d, true, sh, lh, ch, sk, lk, ck, sm, lm, cm⟩ w
  have hb0 := new_block w (.cells #[.int .i64 (n0 : Nat), .int .i64 (n1 : Nat), .int .i64 (d : Nat), .bool true, .slice sh lh ch, .slice sk lk ck, .slice sm lm cm] 25)
  have o0 := hS.o0
  have o1 := hS.o1
  have HW := Lib.hid hw
  have HS := Lib.hid hS
  have HH := Lib.hid hH
  have HK := Lib.hid hK
  have HM := Lib.hid hM
  have x0 : (w.alloc (.cells #[.int .i64 (n0 : Nat), .int .i64 (n1 : Nat), .int .i64 (d : Nat), .bool true, .slice sh lh ch, .slice sk lk ck, .slice sm lm cm] 25)).cell? ⟨w.heap.size, 0, none⟩ = some (.int .i64 (n0 : Nat)) := hX0.c0
  have x2 : (w.alloc (.cells #[.int .i64 (n0 : Nat), .int .i64 (n1 : Nat), .int .i64 (d : Nat), .bool true, .slice sh lh ch, .slice sk lk ck, .slice sm lm cm] 25)).cell? ⟨w.heap.size, 2, none⟩ = some (.int .i64 (d : Nat)) := hX0.c2
  have HX := Lib.hid (And.intro hX0 hb0)
  have X0 := Lib.hid (And.intro x0 x2)
  clear hw hS hH hK hM hX0 hb0 x0 x2
  go_enter Tryz.func9, Tryz.ntmps9
  go_wp2_with (first
    | (go_at_call 26; refine (new_ex n0 o0 _).mono ?_; rintro e w2 ⟨T, B, rfl, hT2, hT, hB, hb2⟩; have x0 := keepc hb2 X0.out.1; have x2 := keepc hb2 X0.out.2)
    | (go_at_call 34; refine (rtnew_yes n0 o0 _).mono ?_; rintro e w3 ⟨f, rfl, hf3, hnew3, hb3⟩; have x2 := keepc hb3 x2; have HMd := Lib.hid (Md.start (n1 := n1) (d := d) HW.out HX.out.1 HX.out.2 (World.size_alloc _ _) o0 hb2 hT2 hT hB hb3 hf3 hnew3); clear hf3 hnew3 hT2 x0))
  have hT0 : (Lay.no.add T B f n0).T 0 = T := rfl
  have hF0 : (Lay.no.add T B f n0).F 0 = f := rfl
  generalize hW4 : (w3.alloc (.cells #[.pointer (some ⟨f.R, 0, none⟩), .slice none 0 0, .int .i64 (d : Nat), .int .i64 0] 48)).alloc (.cells #[.pointer (some ⟨T, 0, none⟩)] 52) = W4 at HMd ⊢
  clear hW4 x2 hb3 hb2 hT hB X0 HX
  generalize w3.heap.size + 1 = A0 at HMd ⊢
  generalize w3.heap.size = E at HMd ⊢
  generalize Lay.no.add T B f n0 = Y0 at *
  generalize hX : w.heap.size = X at HMd ⊢
  go_loopw [48, 11] (fun i va wr => ∃ (r : Nat) (Y : Lay) (vt : Value), r ≤ 2 ∧ i = .int .i64 r ∧ Y.T 0 = T ∧ Y.F 0 = f ∧ Hid (Md a w X ⟨n0, n1, d, true, sh, lh, ch, sk, lk, ck, sm, lm, cm⟩ n0 n1 d E r Y va vt wr)) (fun i _ _ => 2 - (intOf i).toNat)
  case atStart => exact ⟨0, Y0, _, by omega, rfl, hT0, hF0, HMd⟩
  case round =>
    obtain ⟨r, Y, vt, hr, rfl, hT0, hF0, HR⟩ := hrel
    clear HMd
    rcases Nat.lt_or_ge r 2 with hrl | hrl
    · have hri : (r : Int) < 2 := by omega
      have x1 : wr.cell? ⟨X, 1, none⟩ = some (.int .i64 (n1 : Nat)) := HR.out.x.c1
      have y1 : wr.cell? ⟨E, 1, none⟩ = some vt := by rw [cell_of_row _ _ _ _ _ _ HR.out.e]; rfl
      have HT0 := Lib.hid (And.intro hT0 hF0)
      clear hT0 hF0
      go_wp2_with (first
        | (go_at_call 26; refine (new_ex n1 o1 _).mono ?_; rintro e w4 ⟨T', B', rfl, hT4, hT', hB', hb4⟩; have x1 := keepc hb4 x1; have y1 := keepc hb4 y1)
        | (go_at_call 34; refine (rtnew_yes n1 o1 _).mono ?_; rintro e w5 ⟨f', rfl, hf5, hnew5, hb5⟩; have y1 := keepc hb5 y1; have HN := Lib.hid (And.intro hb4 (And.intro hT4 (And.intro hT' (And.intro hB' (And.intro hb5 (And.intro hf5 hnew5)))))); have HB := Lib.hid (under.below_step hb4 hb5); clear hT4 hT' hB' hf5 hnew5)
        | (at_builtin; refine wpList_append_lies _ rfl _ _ 28 rfl w.heap.size 52 i0 (.pointer none) 1 8 Tryz.underlying28 hi0 hq0 hq1 hq2 rfl (by decide) _ _ _ rfl (row_below (row_below HR.out.al HB.out) (new_block _ _)) ⟨w5.heap.size, 0, none⟩ 1 1 [.pointer (some ⟨T', 0, none⟩)] rfl rfl (cell_one_new w5 _ _) (by simp [Value.oneCell']) (by decide) (by simp only [maxLen]; omega) (by omega) (by have := HR.out.m.bel.size; have := HB.out.size; simp; omega) (w5.heap.size + 1) (by simp) ?_; intro g1 c1 w6 hrA hgA haA hlA; have hmid := HR.out.mid HB.out hgA; have y6 : w6.cell? ⟨E, 1, none⟩ = some vt := by rw [cell_of_row _ _ _ _ _ _ hmid.2.1]; rfl
           have HA := Lib.hid (And.intro hrA (And.intro hgA (And.intro haA hmid))); clear hrA hgA haA hlA hmid)
        | (at_builtin; refine wpList_append_lies _ rfl _ _ 46 rfl w.heap.size 45 j0 (.pointer none) 1 8 Tryz.underlying46 hj0 hr0 hr1 hr2 rfl (by decide) _ _ _ rfl (row_below HA.out.2.2.2.1 (new_block _ _)) ⟨w6.heap.size, 0, none⟩ 1 1 [.pointer (some ⟨f'.R, 0, none⟩)] rfl rfl (cell_one_new w6 _ _) (by simp [Value.oneCell']) (by decide) (by simp only [maxLen]; omega) (by omega) (by have := HA.out.2.2.2.2.2; simp; omega) (w6.heap.size + 1) (by simp) ?_; intro g2 c2 w7 hrT hgT haT hlT; have hm2 := HR.out.mid2 HA.out.2.2.2.2.1 hgT; have y7 : w7.cell? ⟨E, 1, none⟩ = some vt := by rw [cell_of_row _ _ _ _ _ _ hm2]; rfl
           have y8 : w7.frozen? ⟨E, 1, none⟩ = false := frozen_of_row _ _ _ _ _ hm2
           have HT := Lib.hid (And.intro hrT (And.intro hgT haT)); clear hrT hgT haT hlT hm2))
      go_roundw
      case rel => exact ⟨r + 1, Y.add T' B' f' n1, _, by omega, by simp, (by show up Y.T Y.N T' 0 = T; rw [up_ne _ _ (by have := HR.out.N; omega)]; exact HT0.out.1), (by show up Y.F Y.N f' 0 = f; rw [up_ne _ _ (by have := HR.out.N; omega)]; exact HT0.out.2), Lib.hid (HR.out.next o1 HN.out.1 HN.out.2.1 HN.out.2.2.1 HN.out.2.2.2.1 HN.out.2.2.2.2.1 HN.out.2.2.2.2.2.1 HN.out.2.2.2.2.2.2 HA.out.1 HA.out.2.1 HA.out.2.2.1 HT.out.1 HT.out.2.1 HT.out.2.2)⟩
      case measure => simp [intOf]; omega
    · obtain rfl : r = 2 := by omega
      obtain ⟨A, cA, GE, cE, hva, hcA, hvt, hMp, hAp⟩ := Md.mp (r := 1) HR.out
      subst hva
      have hNN : Y.N = 3 := HR.out.N
      have H0 := Lib.hid (And.intro HR.out.e0 HR.out.e1)
      clear hvt HR
      have HcA := Lib.hid hcA
      clear hcA
      have HAp := Lib.hid hAp
      have HN := Lib.hid hNN
      clear hAp hNN
      have x5 : wr.cell? ⟨X, 5, none⟩ = some (.slice sk lk ck) := hMp.x.c5
      have hlk : lk ≤ 60 := HS.out.k2
      have HI := Lib.hid (show Reach hz lh Y.N d (news Y) false 0 (news Y) ∧ ∃ k, Mp a w X ⟨n0, n1, d, true, sh, lh, ch, sk, lk, ck, sm, lm, cm⟩ d E GE cE A Y (news Y) (news Y) k (64 * 0) wr from ⟨.new, _, hMp⟩)
      clear hMp
      go_wp2_with (fail)
      go_loopw [94] (fun i wr => ∃ (j : Nat) (t : Nat → Tb), j ≤ lk ∧ i = .int .i64 j ∧ Hid (Reach hz lh Y.N d (news Y) false j t ∧ ∃ k, Mp a w X ⟨n0, n1, d, true, sh, lh, ch, sk, lk, ck, sm, lm, cm⟩ d E GE cE A Y t t k (64 * j) wr)) (fun i _ => lk - (intOf i).toNat)
      case atStart => exact ⟨0, _, by omega, rfl, HI⟩
      case round =>
        obtain ⟨j, t, hj, rfl, HR⟩ := hrel
        clear HI x5
        rcases Nat.lt_or_ge j lk with hjl | hjl
        · have hji : (j : Int) < (lk : Int) := by omega
          obtain ⟨hRe, k, hM0⟩ := HR.out
          clear HR
          obtain ⟨y, rfl, hcy⟩ := HK.out j hjl
          have hc := hcy _ hM0.m.bel
          clear hcy
          have hkn : kN (ks j) lh < lh := kN_lt (ks j) HS.out.h1
          have hlh : lh ≤ 60 := HS.out.h2
          have hzk : hz (kN (ks j) lh) < 18446744073709551616 := by
            obtain ⟨_, _, h, _⟩ := HH.out _ hkn
            exact h
          have cEn : ∀ W, Below w.heap.size w W → Calls Tryz.prog 21 #[.agg #[.int .i64 (n0 : Nat), .int .i64 (n1 : Nat), .int .i64 (d : Nat), .bool true, .slice sh lh ch, .slice (some y) lk ck, .slice sm lm cm], .int .i64 (ks j)] W fun e w' => e = .returned (group.entV (kN (ks j) lh) (kN (ks j) lh + 5) (hz (kN (ks j) lh))) ∧ Below W.heap.size W w' := fun W hb => entry_any ⟨n0, n1, d, true, sh, lh, ch, some y, lk, ck, sm, lm, cm⟩ hz HS.out.h1 HS.out.h2 (ks j) W (HH.out.below hb)
          generalize ks j = zj at *
          generalize kN zj lh = key at *
          have HRe := Lib.hid (Reach.old hRe hkn)
          clear hRe
          have cP := fun W (q : Mp a w X ⟨n0, n1, d, true, sh, lh, ch, some y, lk, ck, sm, lm, cm⟩ d E GE cE A Y t t k (64 * j) W) => q.put HAp.out (i := 0) (by have := HN.out; omega) key (hz key) (key + 5) (by omega) hzk (by omega)
          have cR := fun W (q : Mp a w X ⟨n0, n1, d, true, sh, lh, ch, some y, lk, ck, sm, lm, cm⟩ d E GE cE A Y (up t 0 ((t 0).puts key (hz key) (key + 5))) t k (64 * j) W) => q.rput HAp.out (i := 0) (by have := HN.out; omega) key (hz key) (key + 5) (by omega) hzk (by omega) (by omega)
          rw [hT0] at cP
          rw [hF0] at cR
          generalize up t 0 ((t 0).puts key (hz key) (key + 5)) = t' at *
          generalize key + 5 = key5 at *
          generalize hz key = hk at *
          have ⟨x0, x1, x2, x3, x4, x5, x6⟩ := CBox.all hM0.x
          go_wp2_with (first
            | (go_at_call 21; refine (cEn _ hM0.m.bel).mono ?_; rintro e w5 ⟨rfl, hb5⟩; have hM1 := hM0.read hb5; clear hM0)
            | (go_at_call 31; refine (cP _ hM1).mono ?_; rintro e w6 ⟨rfl, hM2, _⟩; clear hM1 cP; have ⟨z0, z1, z2, z3, z4, z5, z6⟩ := CBox.all hM2.x)
            | (go_at_call 21; refine (cEn _ hM2.m.bel).mono ?_; rintro e w7 ⟨rfl, hb7⟩; have hM3 := hM2.read hb7; clear hM2)
            | (go_at_call 35; refine (cR _ hM3).mono ?_; rintro e w8 ⟨rfl, k', hM4, _⟩; clear hM3 cR))
          go_roundw
          case rel =>
            refine ⟨_, _, _, _, _, _, _, _, _, _, _, _, _, _, _, _, _, _, _, _, ?_, rfl⟩
            exact ⟨j + 1, t', by omega, by simp, Lib.hid ⟨HRe.out, k', by rw [show 64 * (j + 1) = 64 * j + 64 by omega]; exact hM4⟩⟩
          case measure => simp [intOf]; omega
        · obtain rfl : lk = j := by omega
          obtain ⟨hRe, k, hM0⟩ := HR.out
          clear HR
          have HRe := Lib.hid (Reach.turn hRe)
          clear hRe
          have ⟨x0, x1, x2, x3, x4, x5, x6⟩ := CBox.all hM0.x
          have HM0 := Lib.hid hM0
          clear hM0
          go_wp2_with (fail)
          have y2 := Under.cell x2
          clear x0 x1 x2 x3 x4 x5 x6
          have cN : ∀ (cc : Nat) (q : Under wr), Calls Tryz.prog 27 #[.pointer (some ⟨T, 0, none⟩), .int .i64 (d : Nat), .slice (some ⟨A, 1, none⟩) 2 cc] q.W fun e w' => ∃ V, e = .returned (.tuple #[.pointer (some ⟨V, 0, none⟩), .nilIface]) ∧ EvAt V Y d 0 w' ∧ q.W.heap.size ≤ V ∧ Below q.W.heap.size q.W w' := fun cc q => by
            have hq := HM0.out.read q.below
            have hN0 : 0 < Y.N := by have := HN.out; omega
            have h := new_yes Y (by have := HN.out; omega) d A cc HS.out.ld _ q.W (hq.m.at' 0 hN0) (hq.m.tn 0 hN0) hq.al
            rw [HN.out, hT0] at h
            exact h
          refine one.wp_region_one 5 _ (by kernel_rfl) (by kernel_rfl) rfl ?_
          simp only [List.take_succ_cons, List.take_zero, List.drop_succ_cons, List.drop_zero]
          have hcA := HcA.out
          have hc1 : ¬ cA = 1 := by omega
          have hadd : (⟨A, 0, none⟩ : Addr).add (1 * 1) = ⟨A, 1, none⟩ := by simp [Addr.add]
          have hadd1 : (⟨A, 0, none⟩ : Addr).add 1 = ⟨A, 1, none⟩ := by simp [Addr.add]
          repeat (quiet_step (fail))
          refine wpQuiet_nil ?_
          intro y Kc hKc
          have cNy := fun cc => cN cc y
          have HMy := Lib.hid (HM0.out.read y.below)
          clear y2 cN HM0
          generalize y.W = w9 at *
          go_simp
          refine (cNy _).mono ?_
          rintro e w10 ⟨V, rfl, hEv, hV, hb10⟩
          go_simp
          refine hKc _ _ ?_
          clear hKc Kc cNy
          repeat (quiet_step (fail))
          refine wpQuiet_nil ?_
          intro y3
          have hM11 := (HMy.out.read hb10).read y3.below
          have HV := Lib.hid (show Out Y V ∧ w.heap.size ≤ V ∧ V ≠ E ∧ V ≠ GE ∧ V ≠ A from by
            have q := HMy.out
            have z := q.m.bel.size
            have lE := q.em.lt
            have lG := q.em.lg
            have lA := q.lA
            exact ⟨fun i hi e => by have := q.m.lts hi e; omega, by omega, by omega, by omega, by omega⟩)
          have HI3 := Lib.hid (show Reach hz lh Y.N d (news Y) true (lk + 0) t ∧ (∃ k, Mp a w X ⟨n0, n1, d, true, sh, lh, ch, sk, lk, ck, sm, lm, cm⟩ d E GE cE A Y t t k (64 * lk + 128 * 0) y3.W) ∧ EvAt V Y d 0 y3.W from ⟨HRe.out, ⟨k, hM11⟩, hEv.keep y3.below⟩)
          have x6 : y3.W.cell? ⟨X, 6, none⟩ = some (.slice sm lm cm) := hM11.x.c6
          have hlm : lm ≤ 60 := HS.out.m2
          clear hM11 hEv hV hb10 HMy HRe hcA hc1 hadd hadd1
          generalize y3.W = w11 at *
          clear y3 y
          go_wp2_with (fail)
          go_loopw [131] (fun i wr => ∃ (j : Nat) (t : Nat → Tb), j ≤ lm ∧ i = .int .i64 j ∧ Hid (Reach hz lh Y.N d (news Y) true (lk + j) t ∧ (∃ k, Mp a w X ⟨n0, n1, d, true, sh, lh, ch, sk, lk, ck, sm, lm, cm⟩ d E GE cE A Y t t k (64 * lk + 128 * j) wr) ∧ EvAt V Y d 0 wr)) (fun i _ => lm - (intOf i).toNat)
          case atStart => exact ⟨0, _, by omega, rfl, HI3⟩
          case round =>
            obtain ⟨j, t, hj, rfl, HR⟩ := hrel
            clear HI3 x6
            rcases Nat.lt_or_ge j lm with hjl | hjl
            · have hji : (j : Int) < (lm : Int) := by omega
              obtain ⟨hRe, ⟨k, hM0⟩, hEv⟩ := HR.out
              clear HR
              obtain ⟨y, rfl, hcy⟩ := HM.out j hjl
              have hc := hcy _ hM0.m.bel
              clear hcy
              have hkn : kN (ms j) lh < lh := kN_lt (ms j) HS.out.h1
              have hlh : lh ≤ 60 := HS.out.h2
              have hzk : hz (kN (ms j) lh) < 18446744073709551616 := by
                obtain ⟨_, _, h, _⟩ := HH.out _ hkn
                exact h
              have cEn : ∀ W, Below w.heap.size w W → Calls Tryz.prog 21 #[.agg #[.int .i64 (n0 : Nat), .int .i64 (n1 : Nat), .int .i64 (d : Nat), .bool true, .slice sh lh ch, .slice sk lk ck, .slice (some y) lm cm], .int .i64 (ms j)] W fun e w' => e = .returned (group.entV (kN (ms j) lh) (kN (ms j) lh + 5) (hz (kN (ms j) lh))) ∧ Below W.heap.size W w' := fun W hb => entry_any ⟨n0, n1, d, true, sh, lh, ch, sk, lk, ck, some y, lm, cm⟩ hz HS.out.h1 HS.out.h2 (ms j) W (HH.out.below hb)
              generalize ms j = zj at *
              generalize kN zj lh = key at *
              have hN0 : 0 < Y.N := by have := HN.out; omega
              have hNN : Y.N = 2 ∨ Y.N = 3 := by have := HN.out; omega
              have hst : tgt Y.N d (hz key) < Y.N := tgt_lt hNN d (hz key)
              have HR1 := Lib.hid (fun (hi : isThere (t 0) key (hz key) = false) => Reach.more hRe hkn hi)
              have HR2 := Lib.hid (Reach.skip hRe)
              clear hRe
              have cF := fun W (q : Mp a w X ⟨n0, n1, d, true, sh, lh, ch, sk, lk, ck, some y, lm, cm⟩ d E GE cE A Y t t k (64 * lk + 128 * j) W) => q.rfind HAp.out hN0 key (hz key) hzk (by omega)
              have cP := fun k' W (q : Mp a w X ⟨n0, n1, d, true, sh, lh, ch, sk, lk, ck, some y, lm, cm⟩ d E GE cE A Y t t k' (64 * lk + 128 * j + 64) W) => q.put HAp.out hst key (hz key) (key + 5) (by omega) hzk (by omega)
              have cR := fun t' k' W (q : Mp a w X ⟨n0, n1, d, true, sh, lh, ch, sk, lk, ck, some y, lm, cm⟩ d E GE cE A Y t' t k' (64 * lk + 128 * j + 64) W) => q.rput HAp.out hst key (hz key) (key + 5) (by omega) hzk (by omega) (by omega)
              rw [hF0] at cF
              generalize (entOf (t 0) key (hz key)).key = f1 at *
              generalize (entOf (t 0) key (hz key)).val = f2 at *
              generalize (entOf (t 0) key (hz key)).hash = f3 at *
              generalize hit : isThere (t 0) key (hz key) = it at *
              generalize hi : tgt Y.N d (hz key) = i at *
              generalize putB' (t i) key (hz key) = pb at *
              generalize putE' (t i) key (hz key) = pe at *
              generalize up t i ((t i).puts key (hz key) (key + 5)) = t' at *
              have kT := fun W (h : EvAt V Y d 0 W) => target_any V Y hNN d 0 (hz key) HS.out.ld hzk W h
              have kR := fun W (h : EmAt E GE cE Y d 0 W) => rtarget_any E GE cE Y hNN d 0 (hz key) HS.out.ld hzk W h
              rw [hi] at kT kR
              generalize key + 5 = key5 at *
              generalize hz key = hk at *
              have ⟨x0, x1, x2, x3, x4, x5, x6⟩ := CBox.all hM0.x
              have HTP := Lib.hid (fun (x W W' : _) (tt : Nat → Tb) (kk : Nat → Nat) (KK : Nat) (hm : Mp a w X ⟨n0, n1, d, true, sh, lh, ch, sk, lk, ck, some y, lm, cm⟩ d E GE cE A Y tt t kk KK W) (hx : W.heap.size ≤ x) (hT : Tp Y W W') => (show x ∉ Y.rall ++ Y.tall from fun e => by
                rcases List.mem_append.1 e with e | e
                · have := (hm.m.rall e).2; omega
                · have := (hm.m.tall e).2; omega))
              have hb6 := fun W => new_block W (.cells #[.int .u64 (key : Nat), .int .u64 (key5 : Nat), .int .u64 (hk : Nat)] 60)
              have hV6 := fun W => EBox.new key key5 hk W
              have hb7 := fun W => new_block W (.cells #[.int .u64 (f1 : Nat), .int .u64 (f2 : Nat), .int .u64 (f3 : Nat)] 60)
              cases it with
              | true =>
                clear cP cR kT kR HR1
                go_wp2_with (first
                  | (go_at_call 21; refine (cEn _ hM0.m.bel).mono ?_; rintro e w5 ⟨rfl, hb5⟩; have hM2 := (hM0.read hb5).read (hb6 w5); have hV2 := hV6 w5; have hE2 := (hEv.keep hb5).keep (hb6 w5); have q0 := hV2.c0; have q2 := hV2.c2; clear hM0 hEv)
                  | (go_at_call 36; refine (cF _ hM2).mono ?_; rintro e w7 ⟨rfl, k', hM3, hT3⟩; have hM4 := hM3.read (hb7 w7); have hE4 := (hE2.past hT3 (out_tp HV.out.1)).keep (hb7 w7); clear hM2 hM3 hE2 cF))
                clear hb6 hV6 hb7
                go_roundw
                case rel =>
                  exact ⟨j + 1, t, by omega, by simp, Lib.hid ⟨HR2.out, ⟨k', { hM4 with hk := fun i hi => by have := hM4.hk i hi; omega }⟩, hE4⟩⟩
                case measure => simp [intOf]; omega
              | false =>
                clear HR2
                go_wp2_with (first
                  | (go_at_call 21; refine (cEn _ hM0.m.bel).mono ?_; rintro e w5 ⟨rfl, hb5⟩; have hM1 := hM0.read hb5; have hM2 := hM1.read (hb6 w5); have hV2 := hV6 w5; have hE2 := (hEv.keep hb5).keep (hb6 w5); have q0 := hV2.c0; have q2 := hV2.c2; clear hM0 hEv)
                  | (go_at_call 36; refine (cF _ hM2).mono ?_; rintro e w7 ⟨rfl, k', hM3, hT3⟩; have hM4 := hM3.read (hb7 w7); have hE4 := (hE2.past hT3 (out_tp HV.out.1)).keep (hb7 w7); have hV3 := hV2.past hT3 (fun e => by rcases List.mem_append.1 e with e | e; (have := (hM1.m.rall e).2; omega); (have := (hM1.m.tall e).2; omega)); have hV4 := hV3.keep (hb7 w7); clear hM2 hM3 hE2 cF hV2 hV3 q0 q2))
                have HX5 := Lib.hid (show w5.heap.size ∉ Y.rall ++ Y.tall from fun e => by
                  rcases List.mem_append.1 e with e | e
                  · have := (hM1.m.rall e).2; omega
                  · have := (hM1.m.tall e).2; omega)
                generalize w7.alloc (.cells #[.int .u64 (f1 : Nat), .int .u64 (f2 : Nat), .int .u64 (f3 : Nat)] 60) = w8 at *
                generalize w5.heap.size = XE at *
                clear hM1 hb6 hV6 hb7
                have v0 := Under.cell hV4.c0
                have v1 := Under.cell hV4.c1
                have v2 := Under.cell hV4.c2
                have kTq := fun (q : Under w8) => kT q.W (hE4.keep q.below)
                have cPq := fun (q : Under w8) => cP k' q.W (hM4.read q.below)
                have HM4 := Lib.hid (And.intro hE4 hV4)
                clear hM4 hE4 hV4 kT cP
                refine one.wp_region_one 6 _ (by kernel_rfl) (by kernel_rfl) rfl ?_
                simp only [List.take_succ_cons, List.take_zero, List.drop_succ_cons, List.drop_zero]
                repeat (quiet_step ((go_at_call 23; (with_reducible refine under_call (kTq _)))))
                refine wpQuiet_nil ?_
                intro y6 Kc hKc
                have cPy := cPq y6
                have HM5 := Lib.hid (And.intro (HM4.out.1.keep y6.below) (HM4.out.2.keep y6.below))
                clear v0 v1 v2 kTq cPq HM4
                generalize y6.W = w12 at *
                clear y6
                go_simp
                refine cPy.mono ?_
                rintro e w13 ⟨rfl, hM6, hT6⟩
                go_simp
                refine hKc _ _ ?_
                clear hKc Kc cPy
                repeat (quiet_step (fail))
                refine wpQuiet_nil ?_
                intro y7
                have hE7 := (HM5.out.1.past hT6 (out_tp HV.out.1)).keep y7.below
                have hV7 := (HM5.out.2.past hT6 HX5.out).keep y7.below
                have hM7 := hM6.read y7.below
                clear hM6 hT6 HM5
                generalize y7.W = w14 at *
                clear y7
                go_wp2_with (fail)
                have v0 := Under.cell hV7.c0
                have v1 := Under.cell hV7.c1
                have v2 := Under.cell hV7.c2
                have kRq := fun (q : Under w14) => kR q.W (hM7.em.keep q.below)
                have cRq := fun (q : Under w14) => cR t' k' q.W (hM7.read q.below)
                have HE7 := Lib.hid hE7
                clear hM7 hE7 hV7 kR cR
                refine one.wp_region_one 5 _ (by kernel_rfl) (by kernel_rfl) rfl ?_
                simp only [List.take_succ_cons, List.take_zero, List.drop_succ_cons, List.drop_zero]
                repeat (quiet_step ((go_at_call 37; (with_reducible refine under_call (kRq _)))))
                refine wpQuiet_nil ?_
                intro y8 Kc hKc
                have cRy := cRq y8
                have HE8 := Lib.hid (HE7.out.keep y8.below)
                clear v0 v1 v2 kRq cRq HE7
                generalize y8.W = w15 at *
                clear y8
                go_simp
                refine cRy.mono ?_
                rintro e w16 ⟨rfl, k9, hM9, hT9⟩
                go_simp
                refine hKc _ _ ?_
                clear hKc Kc cRy
                repeat (quiet_step (fail))
                refine wpQuiet_nil ?_
                intro y9
                have hM10 := hM9.read y9.below
                have hE10 := (HE8.out.past hT9 (out_tp HV.out.1)).keep y9.below
                clear hM9 hT9 HE8
                generalize y9.W = w17 at *
                clear y9
                go_wp2_with (fail)
                go_roundw
                case rel =>
                  exact ⟨j + 1, t', by omega, by simp, Lib.hid ⟨HR1.out (by simp), ⟨k9, by rw [show 64 * lk + 128 * (j + 1) = 64 * lk + 128 * j + 64 + 64 by omega]; exact hM10⟩, hE10⟩⟩
                case measure => simp [intOf]; omega
            · obtain rfl : lm = j := by omega
              obtain ⟨hRe, ⟨k, hM0⟩, hEv⟩ := HR.out
              clear HR
              have hN0 : 0 < Y.N := by have := HN.out; omega
              have hNN : Y.N = 2 ∨ Y.N = 3 := by have := HN.out; omega
              have HRe := Lib.hid hRe
              clear hRe
              obtain ⟨z0, zf0⟩ := hM0.kc hN0
              obtain ⟨hM1, hT1⟩ := hM0.setK HAp.out hN0
              have hE1 := hEv.past hT1 (out_tp HV.out.1)
              rw [hF0] at z0 zf0 hM1 hE1
              have HMV := Lib.hid (And.intro hM1 hE1)
              have ge : (wr.setCell ⟨f.R, 1, none⟩ (.int .i64 0)).cell? ⟨E, 1, none⟩ = some (.slice (some ⟨GE, 0, none⟩) 2 cE) := by
                have h := hM1.em.c1
                rw [HN.out] at h
                exact h
              clear hM0 hEv hT1 hM1 hE1
              generalize hwz : wr.setCell ⟨f.R, 1, none⟩ (.int .i64 0) = W1 at HMV ge
              go_wp2_with (fail)
              clear hwz z0 zf0
              refine wp_loop_rounds 3 ?_
              have hi1 : 1 < Y.N := by have := HN.out; omega
              have g1 : W1.cell? ⟨GE, 0, none⟩ = some (.pointer (some ⟨(Y.F 1).R, 0, none⟩)) := HMV.out.1.em.tg 1 (by decide) hi1
              obtain ⟨z1, zf1⟩ := HMV.out.1.kc hi1
              obtain ⟨hM2, hT2⟩ := HMV.out.1.setK HAp.out hi1
              have HMV' := Lib.hid (And.intro hM2 (HMV.out.2.past hT2 (out_tp HV.out.1)))
              clear HMV hM2 hT2
              have HMV := HMV'
              clear HMV'
              rw [rounds_succ]
              go_wp2_with (fail)
              generalize W1.setCell ⟨(Y.F 1).R, 1, none⟩ (.int .i64 0) = W2 at *
              clear g1 z1 zf1
              have hi2 : 2 < Y.N := by have := HN.out; omega
              have g2 : W2.cell? ⟨GE, 1, none⟩ = some (.pointer (some ⟨(Y.F 2).R, 0, none⟩)) := HMV.out.1.em.tg 2 (by decide) hi2
              obtain ⟨z2, zf2⟩ := HMV.out.1.kc hi2
              obtain ⟨hM3, hT3⟩ := HMV.out.1.setK HAp.out hi2
              have HMV' := Lib.hid (And.intro hM3 (HMV.out.2.past hT3 (out_tp HV.out.1)))
              clear HMV hM3 hT3
              have HMV := HMV'
              clear HMV'
              rw [rounds_succ]
              go_wp2_with (fail)
              generalize W2.setCell ⟨(Y.F 2).R, 1, none⟩ (.int .i64 0) = W3 at *
              clear g2 z2 zf2
              rw [rounds_succ]
              go_wp2_with (fail)
              go_ret3
              exact ⟨Y, V, A, E, GE, cA, cE, t, rfl, by have := HcA.out; omega, HN.out, ⟨hNN, H0.out.1, H0.out.2, ⟨_, HMV.out.1.m, fun i hi => by have := HN.out; unfold up; split; rfl; split; rfl; first | (split; rfl; omega) | omega⟩, HMV.out.2, HMV.out.1.em, HMV.out.1.al, HMV.out.1.lA, HV.out.1, HAp.out.oE, HAp.out.oGE, HAp.out.oA, HV.out.2.1, HAp.out.hE, HAp.out.hGE, HAp.out.hA, HV.out.2.2.1, HV.out.2.2.2.1, HV.out.2.2.2.2, HAp.out.n2, HAp.out.n4⟩, HRe.out⟩
end Go.Proofs.YtibcokiijlamcaaGreatDoor.evac
