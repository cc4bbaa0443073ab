/- evac: each entry comes to the target of the bit of its hash. -/
import Derived.Test.YtibcokiijlamcaaGreatDoorEvacRun
import Derived.LoopTactic
namespace Go.Proofs.YtibcokiijlamcaaGreatDoor.evac
open Go.ChangeShapes Go.WideShapes Go.ChangeAt Go.RowKit Go.Shelf swar under trap meter group probe lens tail call table
attribute [local go_sem] Oper.semAt_some stage.pureUpon move.stepUpon
set_option linter.unusedSimpArgs false
set_option linter.unusedVariables false

set_option maxRecDepth 100000 in
set_option maxHeartbeats 1000000 in
theorem sides_long (a : String → Addr) (c : Cas) (hl : (¬ ∃ n0 n1 d, Short c n0 n1 d) ∨ ∃ n0 n1 d, Short c n0 n1 d ∧ 6 * n1 < c.lk + c.lm) (w : World) (hw : Bq a w) :
    Calls Tryz.prog 6 #[.agg #[.int .i64 c.old, .int .i64 c.new, .int .i64 c.depth, .bool c.two, .slice c.sh c.lh c.ch, .slice c.sk c.lk c.ck, .slice c.sm c.lm c.cm]] w fun e w' => e = .returned (.bool true) ∧ Below w.heap.size w w' := by
  have cA := fun W (hb : Below w.heap.size w W) => alive_any a W (hw.below hb)
  have hX0 := CBox.new c w
  have hb0 := new_block w (.cells #[.int .i64 c.old, .int .i64 c.new, .int .i64 c.depth, .bool c.two, .slice c.sh c.lh c.ch, .slice c.sk c.lk c.ck, .slice c.sm c.lm c.cm] 25)
  rcases hl with hl | ⟨n0, n1, d, hS, hq⟩
  · have cL := fun W => long_yes hl W
    obtain ⟨old, new, depth, two, sh, lh, ch, sk, lk, ck, sm, lm, cm⟩ := c
    simp only at *
    clear hl
    go_enter Tryz.func6, Tryz.ntmps6
    go_wp2_with (first
      | (go_at_call 7; refine (cA _ hb0).mono ?_; rintro e w1 ⟨rfl, hb1⟩; have ⟨x0, x1, x2, x3, x4, x5, x6⟩ := CBox.all (hX0.keep hb1))
      | (go_at_call 8; refine (cL _).mono ?_; rintro e w2 ⟨rfl, hb2⟩))
    go_ret
    exact ⟨rfl, under.below_step (under.below_step hb0 hb1) hb2⟩
  · have cL := fun W => long_no hS W
    have h1 := hS.l1
    have e1 := hS.e1
    have k2 := hS.k2
    have m2 := hS.m2
    obtain ⟨old, new, depth, two, sh, lh, ch, sk, lk, ck, sm, lm, cm⟩ := c
    simp only at *
    subst e1
    have d1 : decide ((6 : Int) * (n1 : Int) < (lk : Int) + (lm : Int)) = true := decide_eq_true (by omega)
    have d1' : decide (6 * n1 < lk + lm) = true := decide_eq_true hq
    have q1 : IntKind.i64.wrap ((lk : Int) + (lm : Int)) = (lk : Int) + (lm : Int) := IntWalk.i64_in _ (by omega)
    have q2 : IntKind.i64.wrap ((6 : Int) * (n1 : Int)) = (6 : Int) * (n1 : Int) := IntWalk.i64_in _ (by omega)
    clear hS hq h1 k2 m2
    go_enter Tryz.func6, Tryz.ntmps6
    go_wp2_with (first
      | (go_at_call 7; refine (cA _ hb0).mono ?_; rintro e w1 ⟨rfl, hb1⟩; have hX1 := hX0.keep hb1; have ⟨x0, x1, x2, x3, x4, x5, x6⟩ := CBox.all hX1)
      | (go_at_call 8; refine (cL _).mono ?_; rintro e w2 ⟨rfl, hb2⟩; have ⟨z0, z1, z2, z3, z4, z5, z6⟩ := CBox.all (hX1.keep hb2)))
    go_ret
    exact ⟨rfl, under.below_step (under.below_step hb0 hb1) hb2⟩
theorem tab_neq (b : Nat) (w : World) : (binOp BinOp.neq 52 (.pointer (some ⟨b, 0, none⟩)) (.pointer (some ⟨b, 0, none⟩))).run Tryz.prog w = .ok (.bool false) w := by
  have h := tab_same b
  simp [binOp, go_sem, Op.equal]
  rw [show Op.maxDepth = 10000 from rfl, h]; rfl
/-- what is so of an entry of a target -/
theorem ent_side {hz : Nat → Nat} {lh N d next : Nat} {U : Nat → Bool} {t : Nat → Tb} (h : Jn hz lh N d next U t) {j i : Nat} (hj : j + 1 < N) (hi : i < (t (j + 1)).n) {e : Sl} (he : e ∈ entsG ((t (j + 1)).gs i)) : tgt N d e.hash = j + 1 ∧ e.Ok := by
  obtain ⟨M, hs⟩ := h.st
  unfold entsG at he
  obtain ⟨k, hk, rfl⟩ := List.mem_map.1 he
  have hk' := mem_fulls hk
  have hr := hs.rep (j + 1) hj
  have hst : Stands (t (j + 1)) ((t (j + 1)).gs i k).key i k := ⟨hi, hk'.1, hk'.2, rfl⟩
  have hM := (hr.rep.2 _ _).2 ⟨i, k, hst, rfl⟩
  have hh := hr.rep.1.hash _ _ _ hst
  rw [hh]
  exact ⟨hs.tg (j + 1) (by omega) hj _ (by rw [hM]; rfl), hr.rep.1.ok.gs i k⟩
set_option maxRecDepth 100000 in
set_option maxHeartbeats 4000000 in
theorem sides_main (a : String → Addr) (n0 n1 d : Nat) (two : Bool) (sh : Option Addr) (lh ch : Nat) (sk : Option Addr) (lk ck : Nat) (sm : Option Addr) (lm cm : Nat) (hS : Short ⟨n0, n1, d, two, sh, lh, ch, sk, lk, ck, sm, lm, cm⟩ n0 n1 d) (hq : lk + lm ≤ 6 * n1) (hz : Nat → Nat) (ks ms : Nat → Int) (w : World) (hw : Bq a w) (hH : HashAt sh lh w hz) (hK : IntsAt sk lk w ks) (hM : IntsAt sm lm w ms) :
    Calls Tryz.prog 6 #[.agg #[.int .i64 (n0 : Nat), .int .i64 (n1 : Nat), .int .i64 (d : Nat), .bool two, .slice sh lh ch, .slice sk lk ck, .slice sm lm cm]] w fun e w' => e = .returned (.bool true) ∧ Below w.heap.size w w' := by
  have cA := fun W (hb : Below w.heap.size w W) => alive_any a W (hw.below hb)
  have cM := fun W (hb : Below w.heap.size w W) => made_any a n0 n1 d two sh lh ch sk lk ck sm lm cm hS hz ks ms W (hw.below hb) (hH.below hb) (hK.below hb) (hM.below hb)
  have cL := fun W => long_no hS W
  have hzk : ∀ key, key < lh → hz key < 18446744073709551616 := fun key hk => by
    obtain ⟨_, _, h, _⟩ := hH _ hk
    exact h
  have hX0 := CBox.new ⟨n0, n1, d, two, sh, lh, ch, sk, lk, ck, sm, lm, cm⟩ w
  have hb0 := new_block w (.cells #[.int .i64 (n0 : Nat), .int .i64 (n1 : Nat), .int .i64 (d : Nat), .bool two, .slice sh lh ch, .slice sk lk ck, .slice sm lm cm] 25)
  have o0 := hS.o0
  have o1 := hS.o1
  have hl0 := hS.l0
  have hl1 := hS.l1
  have hld := hS.ld
  have k2 := hS.k2
  have m2 := hS.m2
  have h1 := hS.h1
  have h2 := hS.h2
  have d1 : decide ((6 : Int) * (n1 : Int) < (lk : Int) + (lm : Int)) = false := decide_eq_false (by omega)
  have d1' : decide (6 * n1 < lk + lm) = false := decide_eq_false (by omega)
  have q1 : IntKind.i64.wrap ((lk : Int) + (lm : Int)) = (lk : Int) + (lm : Int) := IntWalk.i64_in _ (by omega)
  have q2 : IntKind.i64.wrap ((6 : Int) * (n1 : Int)) = (6 : Int) * (n1 : Int) := IntWalk.i64_in _ (by omega)
  have hes := ev_some
  have hrs := rev_some
  have HZ := Lib.hid hzk
  have HQ := Lib.hid hq
  simp only at k2 m2 h1 h2
  clear hS hq hw hH hK hM hzk
  go_enter Tryz.func6, Tryz.ntmps6
  go_wp2_with (first
    | (go_at_call 7; refine (cA _ hb0).mono ?_; rintro e w1 ⟨rfl, hb1⟩; have hX1 := hX0.keep hb1; have ⟨x0, x1, x2, x3, x4, x5, x6⟩ := CBox.all hX1; have hb01 := under.below_step hb0 hb1; clear cA hb0 hb1 hX0)
    | (go_at_call 8; refine (cL _).mono ?_; rintro e w2 ⟨rfl, hb2⟩; have hX2 := hX1.keep hb2; have hb02 := under.below_step hb01 hb2; have ⟨z0, z1, z2, z3, z4, z5, z6⟩ := CBox.all hX2; clear cL hb2 hX1 hb01 x0 x1 x2 x3 x4 x5 x6)
    | (go_at_call 9; refine (cM _ hb02).mono ?_; rintro e w3 ⟨Y, V, A, E, GE, cA, cE, t0, rfl, hcA, htw, hMd, hRe⟩; have HSR := Lib.hid (hMd.run hld (Below.refl _ w3)); have hX4 := hX2.keep HSR.out.2.r.bel; have ⟨v0, v1, v2, v3, v4, v5, v6⟩ := CBox.all hX4; have HXX := Lib.hid (And.intro z2 z3); have hXX0 := Lib.hid (fun (W : World) (h : Below w2.heap.size w2 W) => keepc h z0); clear cM z0 z1 z2 z3 z4 z5 z6 hX2 hX4))
  have hSd := HSR.out.1
  have HR0 := Lib.hid HSR.out.2
  obtain ⟨U, hJ0, hcU⟩ := Jn.start hSd.N (by omega) HZ.out (fun i hi => by
    rcases Nat.eq_zero_or_pos i with rfl | h
    · rw [hSd.e0]; exact o0
    · rw [hSd.e1 i h hi]; exact o1) hRe
  have HJ0 := Lib.hid hJ0
  clear hMd HSR hRe hJ0 v0 v1 v2 v3 v4 v5 v6 d1 d1' q1 q2
  generalize w3.alloc (.cells #[.int .i64 0, .int .i64 0, .int .i64 0, .int .i64 0, .int .i64 0, .int .i64 0, .int .i64 0, .bool false] 36) = W0 at *
  generalize w3.heap.size = Bm at *
  have hn0 := okN_le o0
  have p1 := okN_pos o1
  have HU := Lib.hid (show ∀ t : Nat → Tb, (∀ i, i < Y.N → (t i).n = Y.n i) → ∀ i, 1 ≤ i → i < Y.N → ((List.range lh).countP U : Int) < 7 * ((t i).n : Int) from fun t ht i h1 hi => by
    have := HQ.out
    rw [ht i hi, hSd.e1 i h1 hi]; omega)
  clear hcU
  obtain ⟨nt, hnt⟩ : ∃ nt, Y.N = nt + 1 := ⟨Y.N - 1, by have := hSd.N; omega⟩
  rw [hnt]
  go_loopw [50] (fun i wr => ∃ j : Nat, j ≤ n0 ∧ i = .int .i64 j ∧ Hid (∃ t v, v ≤ 600 * j ∧ Run a w2 Y V A Bm d j t (Mk 0 v j) wr ∧ Jn hz lh Y.N d j U t)) (fun i _ => n0 - (intOf i).toNat)
  case atStart => exact ⟨0, by omega, rfl, Lib.hid ⟨t0, 0, by omega, HR0.out, HJ0.out⟩⟩
  case round =>
    obtain ⟨j, hj, rfl, HR⟩ := hrel
    clear HR0 HJ0
    rcases Nat.lt_or_ge j n0 with hjl | hjl
    · have hji : (j : Int) < (n0 : Int) := by omega
      obtain ⟨t, v, hv, hR, hJ⟩ := HR.out
      obtain ⟨hg, hJ'⟩ := hJ.step hSd.N (by omega) HZ.out (HU.out t hR.r.tn) (by rw [hR.r.tn 0 (by have := hSd.N; omega), hSd.e0]; exact hjl)
      have cS := run_step hSd hv hjl hn0 hg hR
      have HJ := Lib.hid hJ'
      clear HR hR hJ hJ' hg
      go_wp2_with (go_at_call 12; refine cS.mono ?_; rintro e w5 ⟨rfl, hv5, hR5, _⟩)
      go_roundw
      case rel => exact ⟨j + 1, by omega, by simp, Lib.hid ⟨_, _, hv5, hR5, HJ.out⟩⟩
      case measure => simp [intOf]; omega
    · obtain rfl : n0 = j := by omega
      obtain ⟨t, v, hv, hR, hJ⟩ := HR.out
      clear HR
      have hlen0 : (t 0).len = 0 := by
        obtain ⟨M, hs⟩ := hJ.st
        have hNp : 0 < Y.N := by have := hSd.N; omega
        have ho := hJ.off
        have e := hR.r.tn 0 hNp
        rw [hSd.e0] at e
        rw [← e] at ho
        exact ho.none (hs.rep 0 hNp)
      have HR := Lib.hid hR
      have HJ := Lib.hid hJ
      clear hR hJ
      have hnt2 : 1 ≤ nt ∧ nt ≤ 2 := by have := hSd.N; omega
      have hc1 : ¬ cA = 1 := by omega
      have hadd : (⟨A, 0, none⟩ : Addr).add (1 * 1) = ⟨A, 1, none⟩ := by simp [Addr.add]
      have hadd1 : (⟨A, 0, none⟩ : Addr).add 1 = ⟨A, 1, none⟩ := by simp [Addr.add]
      have hle1 : (1 : Int) ≤ ((nt + 1 : Nat) : Int) := by omega
      have HSd := Lib.hid hSd
      have htw' : two = true → nt = 2 := fun e => by have := htw.1 e; omega
      have HTW := Lib.hid htw'
      clear hSd htw htw' HU
      have hts := tab_neq
      have HX := Lib.hid (fun (W : World) (h : Below w2.heap.size w2 W) => And.intro (h.cell (World.block_lt_of_cell? w2 _ HXX.out.1) |>.trans HXX.out.1) (h.cell (World.block_lt_of_cell? w2 _ HXX.out.2) |>.trans HXX.out.2))
      go_wp2_with (fail)
      go_loopw [60, 7] (fun i s wr => ∃ (j : Nat) (z : Int), j ≤ nt ∧ i = .int .i64 j ∧ s = .int .i64 z ∧ 0 ≤ z ∧ z ≤ 512 * j ∧ Hid (Run a w2 Y V A Bm d n0 t (Mk 0 v n0) wr)) (fun i _ _ => nt - (intOf i).toNat)
      case atStart => exact ⟨0, 0, by omega, rfl, rfl, by omega, by omega, HR⟩
      case round =>
        obtain ⟨j, z, hj, rfl, rfl, hz0, hz1, HR1⟩ := hrel
        clear HR
        rcases Nat.lt_or_ge j nt with hjl | hjl
        · have hji : (j : Int) < (nt : Int) := by omega
          have hjN : j + 1 < Y.N := by omega
          have hc := HR1.out.al (j + 1) hjN
          rw [Nat.add_comm j 1] at hc
          have hadd2 : (⟨A, 1, none⟩ : Addr).add j = ⟨A, 1 + j, none⟩ := add_at A 1 j
          have cLn := fun W (h : Run a w2 Y V A Bm d n0 t (Mk 0 v n0) W) => len_any (Y.T (j + 1)) (Y.B (j + 1)) (t (j + 1)) W (h.r.at' (j + 1) hjN)
          have cGr := fun W (h : Run a w2 Y V A Bm d n0 t (Mk 0 v n0) W) => groups_any (Y.T (j + 1)) (Y.B (j + 1)) (t (j + 1)) W (h.r.at' (j + 1) hjN)
          have hbn := (HR1.out.r.ok (j + 1) hjN).bounds
          have htn := HR1.out.r.tn (j + 1) hjN
          rw [HSd.out.e1 (j + 1) (by omega) hjN] at htn
          rw [htn] at cGr
          have cSc := fun i W (hi : i < n1) (h : Run a w2 Y V A Bm d n0 t (Mk 0 v n0) W) => nscan_any h.r hjN i (by rw [htn]; exact hi)
          have HES := Lib.hid (fun i (hi : i < n1) (e : Sl) (he : e ∈ entsG ((t (j + 1)).gs i)) => ent_side HJ.out hjN (by rw [htn]; exact hi) he)
          have kT := fun (en : Sl) (h : tgt Y.N d en.hash = j + 1) (hh : en.hash < 18446744073709551616) W (q : Run a w2 Y V A Bm d n0 t (Mk 0 v n0) W) => target_any V Y HSd.out.N d n0 en.hash hld hh W q.ev
          rw [Nat.add_comm j 1] at *
          generalize hTj : Y.T (1 + j) = Tj at *
          generalize (t (1 + j)).len = lj at *
          have ew : IntKind.i64.wrap (z + lj) = z + lj := IntWalk.i64_in _ (by omega)
          clear htn
          go_wp2_with (first
            | (go_at_call 24; refine (cLn _ HR1.out).mono ?_; rintro e w5 ⟨rfl, rfl⟩)
            | (go_at_call 28; refine (cGr _ HR1.out).mono ?_; rintro e w5 ⟨rfl, rfl⟩))
          clear cLn cGr hc hadd2
          go_loopw [71] (fun i wr => ∃ i' : Nat, i' ≤ n1 ∧ i = .int .i64 i' ∧ Hid (Run a w2 Y V A Bm d n0 t (Mk 0 v n0) wr)) (fun i _ => n1 - (intOf i).toNat)
          case atStart => exact ⟨0, by omega, rfl, HR1⟩
          case round =>
            obtain ⟨i, hi, rfl, HR2⟩ := hrel
            clear HR1
            rcases Nat.lt_or_ge i n1 with hil | hil
            · have hii : (i : Int) < (n1 : Int) := by omega
              have cS := fun W (q : Run a w2 Y V A Bm d n0 t (Mk 0 v n0) W) => cSc i W hil q
              have hEi := HES.out i hil
              have hl8 : (entsG ((t (1 + j)).gs i)).length ≤ 8 := by unfold entsG; rw [List.length_map]; exact fulls_length _
              generalize entsG ((t (1 + j)).gs i) = l at *
              have HEi := Lib.hid hEi
              clear hEi
              go_wp2_with (go_at_call 29; refine (cS _ HR2.out).mono ?_; rintro e w5 ⟨o, c, rfl, hL, hb5⟩; have HR3 := Lib.hid (And.intro (HR2.out.read hb5) hL); clear hL hb5 cS)
              generalize w5.heap.size = zz at *
              have hBL : wr.heap.size = wr.heap.size := rfl
              generalize wr.heap.size = bl at HR3
              clear hBL
              go_loopw [85] (fun i wr => ∃ k : Nat, k ≤ l.length ∧ i = .int .i64 k ∧ Hid (Run a w2 Y V A Bm d n0 t (Mk 0 v n0) wr ∧ ListAt bl o l wr)) (fun i _ => l.length - (intOf i).toNat)
              case atStart => exact ⟨0, by omega, rfl, HR3⟩
              case round =>
                obtain ⟨k, hk, rfl, HR4⟩ := hrel
                clear HR3 HR2
                rcases Nat.lt_or_ge k l.length with hkl | hkl
                · have hki : (k : Int) < (l.length : Int) := by omega
                  obtain ⟨x, rfl, hxb, hc0, hc1', hc2⟩ := HR4.out.2 k hkl
                  obtain ⟨htg, hs⟩ := HEi.out _ (List.getElem_mem hkl)
                  generalize l[k] = en at *
                  obtain ⟨_, hkey, hval, hhash, _⟩ := hs
                  have hb5 := new_block wr (.cells #[.int .u64 (en.key : Nat), .int .u64 (en.val : Nat), .int .u64 (en.hash : Nat)] 60)
                  have hV := EBox.new en.key en.val en.hash wr
                  have y2 := hV.c2
                  have hR5 := HR4.out.1.read hb5
                  obtain ⟨v2, v3⟩ := HX.out _ hR5.r.bel
                  have cB := fun W => split.bit_yes en.hash d hhash (by omega) W
                  have cT := kT en htg hhash _ hR5
                  rw [htg, hTj] at cT
                  have hbt : two = true → split.bitN en.hash d = j := fun e => by
                    have h3 := HTW.out e
                    have h4 : tgt 3 d en.hash = 1 + split.bitN en.hash d := rfl
                    rw [show Y.N = 3 by omega, h4] at htg
                    omega
                  have HR5 := Lib.hid (And.intro hR5 (HR4.out.2.read hb5))
                  clear hV hb5 hR5
                  cases two with
                  | true =>
                    have hbt' := hbt rfl
                    clear hbt
                    rw [hbt'] at cB
                    have hjj : (((j : Nat) : Int) != ((j : Nat) : Int)) = false := by simp
                    go_wp2_with (first
                      | (go_at_call 30; refine (cB _).mono ?_; rintro e w6 ⟨rfl, rfl⟩)
                      | (go_at_call 23; refine cT.mono ?_; rintro e w7 ⟨rfl, hb7⟩))
                    go_roundw
                    case rel => exact ⟨k + 1, by omega, by simp, Lib.hid ⟨HR5.out.1.read hb7, HR5.out.2.read hb7⟩⟩
                    case measure => simp [intOf]; omega
                  | false =>
                    generalize split.bitN en.hash d = bt at *
                    go_wp2_with (first
                      | (go_at_call 30; refine (cB _).mono ?_; rintro e w6 ⟨rfl, rfl⟩)
                      | (go_at_call 23; refine cT.mono ?_; rintro e w7 ⟨rfl, hb7⟩))
                    go_roundw
                    case rel => exact ⟨k + 1, by omega, by simp, Lib.hid ⟨HR5.out.1.read hb7, HR5.out.2.read hb7⟩⟩
                    case measure => simp [intOf]; omega
                · obtain rfl : k = l.length := by omega
                  go_wp2_with (fail)
                  go_roundw
                  case rel =>
                    first
                      | exact ⟨i + 1, by omega, by simp, Lib.hid HR4.out.1⟩
                      | (repeat (apply Exists.intro)
                         refine ⟨?_, rfl⟩
                         exact ⟨i + 1, by omega, by simp, Lib.hid HR4.out.1⟩)
                  case measure => simp [intOf]; omega
            · obtain rfl : n1 = i := by omega
              go_wp2_with (fail)
              go_roundw
              case rel =>
                first
                  | exact ⟨j + 1, z + lj, by omega, by simp, rfl, by omega, by omega, HR2⟩
                  | (repeat (apply Exists.intro)
                     refine ⟨?_, rfl⟩
                     exact ⟨j + 1, z + lj, by omega, by simp, rfl, by omega, by omega, HR2⟩)
              case measure => simp [intOf]; omega
        · obtain rfl : nt = j := by omega
          have hrd := HR1.out
          have cAl := fun (q : Under wr) => all_mk Bm 0 v n0 q.W (hrd.mt.below q.below)
          have h0N : 0 < Y.N := by omega
          have cL0 := fun (q : Under wr) => len_any (Y.T 0) (Y.B 0) (t 0) q.W ((hrd.r.at' 0 h0N).below q.below)
          rw [hlen0] at cL0
          have hcell := Under.cell (hrd.al 0 h0N)
          have hX2 := Under.cell (hXX0.out wr hrd.r.bel)
          have hfl := fld2
          have hz2 : decide (0 ≤ z) = true := decide_eq_true hz0
          have HB := Lib.hid (under.below_step hb02 hrd.r.bel)
          generalize Y.T 0 = T0 at *
          clear hrd HX hts
          go_wp2_with (fail)
          refine wp_region_under (by kernel_rfl) (by kernel_rfl) ?_
          repeat (go_big_quiet_step (first
            | (go_at_call 16; (with_reducible refine under_call (cAl _)))
            | (go_at_call 24; (with_reducible refine under_same (cL0 _)))))
          refine wpQuiet_nil ?_
          intro wz hwz
          obtain ⟨q, rfl⟩ := hwz
          clear cAl cL0 hcell hX2
          go_wp2
          go_ret
          exact ⟨rfl, under.below_step HB.out q.below⟩
theorem sides_law (a : String → Addr) (old new depth : Int) (two : Bool) (sh : Option Addr) (lh ch : Nat) (sk : Option Addr) (lk ck : Nat) (sm : Option Addr) (lm cm : Nat) (hz : Nat → Nat) (ks ms : Nat → Int) (w : World) (hw : Bq a w) (hH : HashAt sh lh w hz) (hK : IntsAt sk lk w ks) (hM : IntsAt sm lm w ms) :
    Calls Tryz.prog 6 #[.agg #[.int .i64 old, .int .i64 new, .int .i64 depth, .bool two, .slice sh lh ch, .slice sk lk ck, .slice sm lm cm]] w fun e w' => e = .returned (.bool true) ∧ Below w.heap.size w w' := by
  by_cases hS : ∃ n0 n1 d, Short ⟨old, new, depth, two, sh, lh, ch, sk, lk, ck, sm, lm, cm⟩ n0 n1 d
  · obtain ⟨n0, n1, d, hS⟩ := hS
    by_cases hq : lk + lm ≤ 6 * n1
    · obtain rfl : old = n0 := hS.e0
      obtain rfl : new = n1 := hS.e1
      obtain rfl : depth = d := hS.ed
      exact sides_main a n0 n1 d two sh lh ch sk lk ck sm lm cm hS hq hz ks ms w hw hH hK hM
    · exact sides_long a ⟨old, new, depth, two, sh, lh, ch, sk, lk, ck, sm, lm, cm⟩ (.inr ⟨n0, n1, d, hS, by show 6 * n1 < lk + lm; omega⟩) w hw
  · exact sides_long a ⟨old, new, depth, two, sh, lh, ch, sk, lk, ck, sm, lm, cm⟩ (.inl hS) w hw
end Go.Proofs.YtibcokiijlamcaaGreatDoor.evac
