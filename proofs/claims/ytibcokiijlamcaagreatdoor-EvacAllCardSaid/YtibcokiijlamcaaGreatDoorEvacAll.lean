/- evac: at every moment each entry is in just one of the tables. -/
import Derived.Test.YtibcokiijlamcaaGreatDoorEvacThere
import Derived.LoopTactic
namespace Go.Proofs.YtibcokiijlamcaaGreatDoor.evac
open Go.ChangeShapes Go.WideShapes Go.ChangeAt Go.RowKit Go.Shelf swar under trap meter group probe lens tail call table
attribute [local go_sem] Oper.semAt_some stage.pureUpon move.stepUpon movex.stepUpon
set_option linter.unusedSimpArgs false
set_option linter.unusedVariables false

theorem sl_bounds {t : Nat → Tb} {N : Nat} (h : ∀ i, i < N → 0 ≤ (t i).len ∧ (t i).len ≤ 512) : ∀ j, j ≤ N → 0 ≤ sl t j ∧ sl t j ≤ 512 * (j : Int)
  | 0, _ => ⟨Int.le_refl _, Int.le_refl _⟩
  | j + 1, hj => by
    have h1 := sl_bounds h j (by omega)
    have h2 := h j (by omega)
    show 0 ≤ sl t j + (t j).len ∧ sl t j + (t j).len ≤ 512 * ((j + 1 : Nat) : Int)
    omega
/-- ahead of a step and behind it; the case's box stays -/
def GD (w : World) (X : Nat) (n0 : Int) (P : World → Prop) (s : Bool) (W : World) : Prop := (if s = true then P W else Below w.heap.size w W) ∧ W.cell? ⟨X, 0, none⟩ = some (.int .i64 n0)
def GM (b : Bool) (_ : Nat) (_ : Bool) (v : Value) (s' : Bool) : Prop := v = .bool b ∧ s' = true
set_option maxRecDepth 100000 in
set_option maxHeartbeats 1000000 in
theorem all_long (a : String → Addr) (c : Cas) (hl : ¬ ∃ n0 n1 d, Short c n0 n1 d) (w : World) (hw : Bq a w) :
    Calls Tryz.prog 4 #[.agg #[.int .i64 c.old, .int .i64 c.new, .int .i64 c.depth, .bool c.two, .slice c.sh c.lh c.ch, .slice c.sk c.lk c.ck, .slice c.sm c.lm c.cm]] w fun e w' => e = .returned (.bool true) ∧ Below w.heap.size w w' := by
  have cA := fun W (hb : Below w.heap.size w W) => alive_any a W (hw.below hb)
  have hX0 := CBox.new c w
  have hb0 := new_block w (.cells #[.int .i64 c.old, .int .i64 c.new, .int .i64 c.depth, .bool c.two, .slice c.sh c.lh c.ch, .slice c.sk c.lk c.ck, .slice c.sm c.lm c.cm] 25)
  have cL := fun W => long_yes hl W
  obtain ⟨old, new, depth, two, sh, lh, ch, sk, lk, ck, sm, lm, cm⟩ := c
  simp only at *
  clear hl
  go_enter Tryz.func4, Tryz.ntmps4
  go_wp2_with (first
    | (go_at_call 7; refine (cA _ hb0).mono ?_; rintro e w1 ⟨rfl, hb1⟩; have ⟨x0, x1, x2, x3, x4, x5, x6⟩ := CBox.all (hX0.keep hb1))
    | (go_at_call 8; refine (cL _).mono ?_; rintro e w2 ⟨rfl, hb2⟩))
  go_ret
  exact ⟨rfl, under.below_step (under.below_step hb0 hb1) hb2⟩
set_option maxRecDepth 100000 in
set_option maxHeartbeats 1000000 in
theorem all_many (a : String → Addr) (n0 n1 d : Nat) (two : Bool) (sh : Option Addr) (lh ch : Nat) (sk : Option Addr) (lk ck : Nat) (sm : Option Addr) (lm cm : Nat) (hS : Short ⟨n0, n1, d, two, sh, lh, ch, sk, lk, ck, sm, lm, cm⟩ n0 n1 d) (hq : ¬ lk + lm ≤ 6 * n1) (hz : Nat → Nat) (ks ms : Nat → Int) (w : World) (hw : Bq a w) (hH : HashAt sh lh w hz) (hK : IntsAt sk lk w ks) (hM : IntsAt sm lm w ms) :
    Calls Tryz.prog 4 #[.agg #[.int .i64 (n0 : Nat), .int .i64 (n1 : Nat), .int .i64 (d : Nat), .bool two, .slice sh lh ch, .slice sk lk ck, .slice sm lm cm]] w fun e w' => e = .returned (.bool true) ∧ Below w.heap.size w w' := by
  have cA := fun W (hb : Below w.heap.size w W) => alive_any a W (hw.below hb)
  have cM := fun W (hb : Below w.heap.size w W) => made_any a n0 n1 d two sh lh ch sk lk ck sm lm cm hS hz ks ms W (hw.below hb) (hH.below hb) (hK.below hb) (hM.below hb)
  have cL := fun W => long_no hS W
  have hX0 := CBox.new ⟨n0, n1, d, two, sh, lh, ch, sk, lk, ck, sm, lm, cm⟩ w
  have hb0 := new_block w (.cells #[.int .i64 (n0 : Nat), .int .i64 (n1 : Nat), .int .i64 (d : Nat), .bool two, .slice sh lh ch, .slice sk lk ck, .slice sm lm cm] 25)
  have hld := hS.ld
  have hl1 := hS.l1
  have k2 := hS.k2
  have m2 := hS.m2
  simp only at k2 m2
  have d1 : decide ((6 : Int) * (n1 : Int) < (lk : Int) + (lm : Int)) = true := decide_eq_true (by omega)
  have d1' : decide (6 * n1 < lk + lm) = true := decide_eq_true (by omega)
  have q1 : IntKind.i64.wrap ((lk : Int) + (lm : Int)) = (lk : Int) + (lm : Int) := IntWalk.i64_in _ (by omega)
  have q2 : IntKind.i64.wrap ((6 : Int) * (n1 : Int)) = (6 : Int) * (n1 : Int) := IntWalk.i64_in _ (by omega)
  have hes := ev_some
  have hrs := rev_some
  clear hS hq hw hH hK hM
  go_enter Tryz.func4, Tryz.ntmps4
  go_wp2_with (first
    | (go_at_call 7; refine (cA _ hb0).mono ?_; rintro e w1 ⟨rfl, hb1⟩; have hX1 := hX0.keep hb1; have ⟨x0, x1, x2, x3, x4, x5, x6⟩ := CBox.all hX1; have hb01 := under.below_step hb0 hb1; clear cA hb0 hb1 hX0)
    | (go_at_call 8; refine (cL _).mono ?_; rintro e w2 ⟨rfl, hb2⟩; have hX2 := hX1.keep hb2; have hb02 := under.below_step hb01 hb2; have ⟨z0, z1, z2, z3, z4, z5, z6⟩ := CBox.all hX2; clear cL hb2 hX1 hb01 x0 x1 x2 x3 x4 x5 x6)
    | (go_at_call 9; refine (cM _ hb02).mono ?_; rintro e w3 ⟨Y, V, A, E, GE, cA, cE, t0, rfl, hcA, htw, hMd, hRe⟩; have hR3 := (hMd.run hld (Below.refl _ w3)).2.r.bel; have hbe : Below w2.heap.size w2 w3 := (by obtain ⟨k, hm, _⟩ := hMd.m; exact hm.bel); have hX4 := hX2.keep hbe; have ⟨v0, v1, v2, v3, v4, v5, v6⟩ := CBox.all hX4; have hb03 := under.below_step hb02 hbe; clear cM z0 z1 z2 z3 z4 z5 z6 hX2 hX4))
  go_ret
  exact ⟨rfl, hb03⟩
set_option maxRecDepth 100000 in
set_option maxHeartbeats 4000000 in
theorem all_main (a : String → Addr) (n0 n1 d : Nat) (two : Bool) (sh : Option Addr) (lh ch : Nat) (sk : Option Addr) (lk ck : Nat) (sm : Option Addr) (lm cm : Nat) (hS : Short ⟨n0, n1, d, two, sh, lh, ch, sk, lk, ck, sm, lm, cm⟩ n0 n1 d) (hq : lk + lm ≤ 6 * n1) (hz : Nat → Nat) (ks ms : Nat → Int) (w : World) (hw : Bq a w) (hH : HashAt sh lh w hz) (hK : IntsAt sk lk w ks) (hM : IntsAt sm lm w ms) :
    Calls Tryz.prog 4 #[.agg #[.int .i64 (n0 : Nat), .int .i64 (n1 : Nat), .int .i64 (d : Nat), .bool two, .slice sh lh ch, .slice sk lk ck, .slice sm lm cm]] w fun e w' => e = .returned (.bool true) ∧ Below w.heap.size w w' := by
  have cA := fun W (hb : Below w.heap.size w W) => alive_any a W (hw.below hb)
  have cM := fun W (hb : Below w.heap.size w W) => made_any a n0 n1 d two sh lh ch sk lk ck sm lm cm hS hz ks ms W (hw.below hb) (hH.below hb) (hK.below hb) (hM.below hb)
  have cL := fun W => long_no hS W
  have hzk : ∀ key, key < lh → hz key < 18446744073709551616 := fun key hk => by
    obtain ⟨_, _, h, _⟩ := hH _ hk
    exact h
  have hX0 := CBox.new ⟨n0, n1, d, two, sh, lh, ch, sk, lk, ck, sm, lm, cm⟩ w
  have hb0 := new_block w (.cells #[.int .i64 (n0 : Nat), .int .i64 (n1 : Nat), .int .i64 (d : Nat), .bool two, .slice sh lh ch, .slice sk lk ck, .slice sm lm cm] 25)
  have o0 := hS.o0
  have o1 := hS.o1
  have hl0 := hS.l0
  have hl1 := hS.l1
  have hld := hS.ld
  have k2 := hS.k2
  have m2 := hS.m2
  have h1 := hS.h1
  have h2 := hS.h2
  simp only at k2 m2 h1 h2
  have d1 : decide ((6 : Int) * (n1 : Int) < (lk : Int) + (lm : Int)) = false := decide_eq_false (by omega)
  have d1' : decide (6 * n1 < lk + lm) = false := decide_eq_false (by omega)
  have q1 : IntKind.i64.wrap ((lk : Int) + (lm : Int)) = (lk : Int) + (lm : Int) := IntWalk.i64_in _ (by omega)
  have q2 : IntKind.i64.wrap ((6 : Int) * (n1 : Int)) = (6 : Int) * (n1 : Int) := IntWalk.i64_in _ (by omega)
  have hes := ev_some
  have hrs := rev_some
  have HZ := Lib.hid hzk
  have HQ := Lib.hid hq
  have HE := Lib.hid (fun (k : Int) (W : World) (hb : Below w.heap.size w W) => entry_any ⟨n0, n1, d, two, sh, lh, ch, sk, lk, ck, sm, lm, cm⟩ hz h1 h2 k W (hH.below hb))
  clear hS hq hw hH hK hM hzk
  go_enter Tryz.func4, Tryz.ntmps4
  go_wp2_with (first
    | (go_at_call 7; refine (cA _ hb0).mono ?_; rintro e w1 ⟨rfl, hb1⟩; have hX1 := hX0.keep hb1; have ⟨x0, x1, x2, x3, x4, x5, x6⟩ := CBox.all hX1; have hb01 := under.below_step hb0 hb1; clear cA hb0 hb1 hX0)
    | (go_at_call 8; refine (cL _).mono ?_; rintro e w2 ⟨rfl, hb2⟩; have hX2 := hX1.keep hb2; have hb02 := under.below_step hb01 hb2; have ⟨z0, z1, z2, z3, z4, z5, z6⟩ := CBox.all hX2; clear cL hb2 hX1 hb01 x0 x1 x2 x3 x4 x5 x6)
    | (go_at_call 9; refine (cM _ hb02).mono ?_; rintro e w3 ⟨Y, V, A, E, GE, cA, cE, t0, rfl, hcA, htw, hMd, hRe⟩; have hbe : Below w2.heap.size w2 w3 := (by obtain ⟨k, hm, _⟩ := hMd.m; exact hm.bel); have hX4 := hX2.keep hbe; have ⟨v0, v1, v2, v3, v4, v5, v6⟩ := CBox.all hX4; have v4a := keepc (new_block w3 (.cells #[] 60)) v4; have HMd := Lib.hid hMd; have HRe := Lib.hid hRe; have HX4 := Lib.hid hX4; have HX2 := Lib.hid hX2; clear cM z0 z1 z2 z3 z4 z5 z6 hX2 hX4 hMd hRe))
  clear d1 d1' q1 q2 v0 v1 v2 v3 v4 v5 v6 v4a
  have hb03 := under.below_step hb02 hbe
  have hNN := HMd.out.N
  have hR3 : Real a w2 Y t0 w3 := by
    obtain ⟨k, hm, _⟩ := HMd.out.m
    exact Real.of hm
  obtain ⟨U, hJ0, hcU⟩ := Jn.start hNN (by omega) HZ.out (fun i hi => by
    rcases Nat.eq_zero_or_pos i with rfl | h
    · rw [HMd.out.n0]; exact o0
    · rw [HMd.out.n1 i h hi]; exact o1) HRe.out
  have HSe := Lib.hid (hJ0.seen hNN)
  have HJ0 := Lib.hid hJ0
  have h0N : 0 < Y.N := by omega
  have HF0 := Lib.hid (fun key (hk : key < lh) W (hb : Below w3.heap.size w3 W) => nfind_any (hR3.read hb) h0N key (hz key) (by omega) (HZ.out key hk))
  have HF1 := Lib.hid (fun key (hk : key < lh) W (hb : Below w3.heap.size w3 W) => nfind_any (hR3.read hb) (tgt_lt hNN d (hz key)) key (hz key) (by omega) (HZ.out key hk))
  have HT0 := Lib.hid (fun key (hk : key < lh) W (hb : Below w3.heap.size w3 W) => target_any V Y hNN d 0 (hz key) hld (HZ.out key hk) W (HMd.out.ev.keep hb))
  have HA0 := Lib.hid (fun W (hb : Below w3.heap.size w3 W) => keepc hb (HMd.out.al 0 h0N))
  have HI := Lib.hid (show Below w3.heap.size w3 (w3.alloc (.cells #[] 60)) ∧ group.Kept w3.heap.size (w3.alloc (.cells #[] 60)) (.slice (some ⟨w3.heap.size, 0, none⟩) 0 0) (entK hz) (ksU U 0) from ⟨new_block w3 _, World.ownsRow_made w3 #[] 0 (Nat.le_refl _) (Nat.zero_le _) rfl⟩)
  clear hJ0 hR3 HRe
  generalize w3.alloc (.cells #[] 60) = W0 at HI ⊢
  obtain ⟨i0, hi0, hq0, hq1, hq2⟩ := info_parts infoEnt
  go_loopw [59, 6] (fun i v wr => ∃ j : Nat, j ≤ lh ∧ i = .int .i64 j ∧ Hid (Below w3.heap.size w3 wr ∧ group.Kept w3.heap.size wr v (entK hz) (ksU U j))) (fun i _ _ => lh - (intOf i).toNat)
  case atStart => exact ⟨0, by omega, rfl, HI⟩
  case round =>
    obtain ⟨j, hj, rfl, HR⟩ := hrel
    clear HI
    rcases Nat.lt_or_ge j lh with hjl | hjl
    · have hji : (j : Int) < (lh : Int) := by omega
      have hkn : kN (j : Int) lh = j := by
        have h : ((j : Int) % 18446744073709551616).toNat = j := by omega
        unfold kN uN
        rw [IntKind.wrap_u64, h]
        exact Nat.mod_eq_of_lt hjl
      have cE := HE.out (j : Int) wr (under.below_step hb03 HR.out.1)
      rw [hkn] at cE
      have ⟨x0, x1, x2, x3, x4, x5, x6⟩ := CBox.all (HX4.out.keep HR.out.1)
      obtain ⟨b, hbt⟩ : ∃ b, isThere (t0 0) j (hz j) = b := ⟨_, rfl⟩
      obtain ⟨b', hbt'⟩ : ∃ b', isThere (t0 (tgt Y.N d (hz j))) j (hz j) = b' := ⟨_, rfl⟩
      have hex := HSe.out.ex j
      have hun := HSe.out.un j
      have hks := ksU_succ U j
      have hkl := ksU_len_le U j
      have hrs := rows_snoc (entK hz) (ksU U j) j
      rw [show ent (entK hz j) = [.int .u64 (j : Nat), .int .u64 ((j + 5 : Nat) : Int), .int .u64 (hz j : Nat)] from rfl] at hrs
      have cF0 := HF0.out j hjl
      have cF1 := HF1.out j hjl
      have cT := HT0.out j hjl
      rw [hbt] at cF0 hex hun
      rw [hbt'] at cF1 hex hun
      rw [hun] at hks
      have HKS := Lib.hid hks
      have HRS := Lib.hid hrs
      have HX := Lib.hid hex
      clear hks hrs hun hex hkn hbt hbt'
      generalize entOf (t0 0) j (hz j) = e1 at *
      generalize entOf (t0 (tgt Y.N d (hz j))) j (hz j) = e2 at *
      generalize Y.T (tgt Y.N d (hz j)) = T1 at *
      generalize hY0 : Y.T 0 = T0 at *
      generalize hvj : j + 5 = vj at *
      generalize hhj : hz j = hh at *
      go_wp2_with (go_at_call 21; refine cE.mono ?_; rintro e w5 ⟨rfl, hb5⟩)
      have hbr6 := under.below_step hb5 (new_block w5 (.cells #[.int .u64 (j : Nat), .int .u64 (vj : Nat), .int .u64 (hh : Nat)] 60))
      have hb6 := under.below_step HR.out.1 hbr6
      have hk6 := row_below HR.out.2 hbr6
      have hV8 := EBox.new j vj hh w5
      clear x0 x1 x2 x3 x4 x5 x6 hb5 hbr6 cE
      generalize w5.alloc (.cells #[.int .u64 (j : Nat), .int .u64 (vj : Nat), .int .u64 (hh : Nat)] 60) = w6 at *
      generalize w5.heap.size = X8 at *
      have ca6 := HA0.out w6 hb6
      have hxd : FD w6 e1.key e1.val e1.hash ⟨none, false⟩ w6.drew := FD.start _ _ _ _ (under.drew_below _)
      have qa : ∀ q : movex.Un (FD w6 e1.key e1.val e1.hash), q.W.cell? ⟨A, 0, none⟩ = some (.pointer (some ⟨T0, 0, none⟩)) := fun q => keepc q.h.bel ca6
      have qk : ∀ q : movex.Un (FD w6 e1.key e1.val e1.hash), q.W.cell? ⟨X8, 0, none⟩ = some (.int .u64 (j : Nat)) := fun q => keepc q.h.bel hV8.c0
      have qh : ∀ q : movex.Un (FD w6 e1.key e1.val e1.hash), q.W.cell? ⟨X8, 2, none⟩ = some (.int .u64 (hh : Nat)) := fun q => keepc q.h.bel hV8.c2
      haveI : Nonempty (movex.Un (FD w6 e1.key e1.val e1.hash)) := ⟨⟨_, _, hxd⟩⟩
      refine (wpIn_wide (n := 3)).1 ?_
      refine movex.region (D := FD w6 e1.key e1.val e1.hash) (FM (fun _ => .tuple #[group.entV e1.key e1.val e1.hash, .bool b]) 12 13) 13 15 [false, false, false, false, false, false, false, false, true, false, false, false, true, true, false] [(8, 12)] (by kernel_rfl) (by kernel_rfl) (by kernel_rfl) (fun k s _ => FM.some _ _ _ k s) (fun i j hij => by
        simp only [List.mem_cons, Prod.mk.injEq, List.not_mem_nil, or_false] at hij
        obtain ⟨rfl, rfl⟩ := hij
        exact FM.free _ _ _ _ (by decide) (by decide)) ⟨none, false⟩ hxd ?_
      simp only [List.take_succ_cons, List.take_zero, List.drop_succ_cons, List.drop_zero]
      iterate 8
        refine movex.pure_step (fun _ _ _ => trivial) (fun K hK => ?_)
        go_simp
        refine hK _ ?_
        clear hK K
      refine movex.move_step (fun _ _ _ => trivial) (by kernel_rfl) (fun sd wd hd => ?_) ?_
      · go_simp
        refine callsIn_wide.2 ((cF0 wd (under.below_step hb6 hd.bel)).mono ?_)
        rintro e' w' ⟨rfl, hb'⟩
        exact ⟨_, rfl, sd, ⟨rfl, rfl⟩, hd.read hb'⟩
      rintro _ _ ⟨rfl, rfl⟩ K hK
      refine hK _ ?_
      clear hK K
      iterate 3
        refine movex.pure_step (fun _ _ _ => trivial) (fun K hK => ?_)
        go_simp
        refine hK _ ?_
        clear hK K
      refine movex.move_step (fun _ _ _ => trivial) (by kernel_rfl) (fun sd wd hd => ?_) ?_
      · go_simp
        exact ⟨_, ⟨_, rfl, rfl⟩, hd.put⟩
      rintro _ _ ⟨b9, rfl, rfl⟩ K hK
      refine hK _ ?_
      clear hK K
      refine movex.last_step (fun _ _ _ => trivial) (by kernel_rfl) (fun wd hd => ?_) ?_
      · obtain ⟨_, x', y', z', hB, _⟩ := hd.box b9 rfl
        have g0 := hB.c0
        have g1 := hB.c1
        have g2 := hB.c2
        have gf := hB.fz
        go_simp
        exact ⟨_, ⟨rfl, rfl⟩, hd.set⟩
      rintro _ _ ⟨rfl, rfl⟩ K hK
      refine hK _ ?_
      clear hK K
      iterate 1
        refine movex.pure_step (fun _ _ _ => trivial) (fun K hK => ?_)
        go_simp
        refine hK _ ?_
        clear hK K
      refine movex.nil_step ?_
      intro w7 hd7
      obtain ⟨hlo, x', y', z', hV9, h9⟩ := hd7.box b9 rfl
      obtain ⟨rfl, rfl, rfl⟩ := h9 rfl
      have hb7 := hd7.bel
      clear hd7 h9 hlo hxd qk qh this
      clear qa
      have hk7 := row_below hk6 hb7
      have hb37 := under.below_step hb6 hb7
      have hV8' := hV8.keep hb7
      clear hV8 ca6 hb6 hk6 hb7 cF0
      have hV8 := hV8'
      clear hV8'
      gi_wp2
      go_wp2_with (fail)
      have hxd : FD w7 e2.key e2.val e2.hash ⟨none, false⟩ w7.drew := FD.start _ _ _ _ (under.drew_below _)
      have qk : ∀ q : movex.Un (FD w7 e2.key e2.val e2.hash), q.W.cell? ⟨X8, 0, none⟩ = some (.int .u64 (j : Nat)) := fun q => keepc q.h.bel hV8.c0
      have qh : ∀ q : movex.Un (FD w7 e2.key e2.val e2.hash), q.W.cell? ⟨X8, 2, none⟩ = some (.int .u64 (hh : Nat)) := fun q => keepc q.h.bel hV8.c2
      haveI : Nonempty (movex.Un (FD w7 e2.key e2.val e2.hash)) := ⟨⟨_, _, hxd⟩⟩
      refine (wpIn_wide (n := 3)).1 ?_
      refine movex.region (D := FD w7 e2.key e2.val e2.hash) (FM (fun k => if k = 3 then .pointer (some ⟨T1, 0, none⟩) else .tuple #[group.entV e2.key e2.val e2.hash, .bool b']) 13 14) 14 16 [false, false, false, true, false, false, false, false, false, true, false, false, false, true, true, false] [(3, 13), (9, 13)] (by kernel_rfl) (by kernel_rfl) (by kernel_rfl) (fun k s _ => FM.some _ _ _ k s) (fun i j hij => by
        simp only [List.mem_cons, Prod.mk.injEq, List.not_mem_nil, or_false] at hij
        rcases hij with ⟨rfl, rfl⟩ | ⟨rfl, rfl⟩
        · exact FM.free _ _ _ _ (by decide) (by decide)
        · exact FM.free _ _ _ _ (by decide) (by decide)) ⟨none, false⟩ hxd ?_
      simp only [List.take_succ_cons, List.take_zero, List.drop_succ_cons, List.drop_zero]
      iterate 3
        refine movex.pure_step (fun _ _ _ => trivial) (fun K hK => ?_)
        go_simp
        refine hK _ ?_
        clear hK K
      refine movex.move_step (fun _ _ _ => trivial) (by kernel_rfl) (fun sd wd hd => ?_) ?_
      · go_simp
        refine callsIn_wide.2 ((cT wd (under.below_step hb37 hd.bel)).mono ?_)
        rintro e' w' ⟨rfl, hb'⟩
        exact ⟨_, rfl, sd, ⟨rfl, rfl⟩, hd.read hb'⟩
      rintro _ _ ⟨rfl, rfl⟩ K hK
      refine hK _ ?_
      clear hK K
      iterate 5
        refine movex.pure_step (fun _ _ _ => trivial) (fun K hK => ?_)
        go_simp
        refine hK _ ?_
        clear hK K
      refine movex.move_step (fun _ _ _ => trivial) (by kernel_rfl) (fun sd wd hd => ?_) ?_
      · go_simp
        refine callsIn_wide.2 ((cF1 wd (under.below_step hb37 hd.bel)).mono ?_)
        rintro e' w' ⟨rfl, hb'⟩
        exact ⟨_, rfl, sd, ⟨rfl, rfl⟩, hd.read hb'⟩
      rintro _ _ ⟨rfl, rfl⟩ K hK
      refine hK _ ?_
      clear hK K
      iterate 3
        refine movex.pure_step (fun _ _ _ => trivial) (fun K hK => ?_)
        go_simp
        refine hK _ ?_
        clear hK K
      refine movex.move_step (fun _ _ _ => trivial) (by kernel_rfl) (fun sd wd hd => ?_) ?_
      · go_simp
        exact ⟨_, ⟨_, rfl, rfl⟩, hd.put⟩
      rintro _ _ ⟨b11, rfl, rfl⟩ K hK
      refine hK _ ?_
      clear hK K
      refine movex.last_step (fun _ _ _ => trivial) (by kernel_rfl) (fun wd hd => ?_) ?_
      · obtain ⟨_, x', y', z', hB, _⟩ := hd.box b11 rfl
        have g0 := hB.c0
        have g1 := hB.c1
        have g2 := hB.c2
        have gf := hB.fz
        go_simp
        exact ⟨_, ⟨rfl, rfl⟩, hd.set⟩
      rintro _ _ ⟨rfl, rfl⟩ K hK
      refine hK _ ?_
      clear hK K
      iterate 1
        refine movex.pure_step (fun _ _ _ => trivial) (fun K hK => ?_)
        go_simp
        refine hK _ ?_
        clear hK K
      refine movex.nil_step ?_
      intro w8 hd7
      obtain ⟨hlo, x', y', z', hV11, h9⟩ := hd7.box b11 rfl
      obtain ⟨rfl, rfl, rfl⟩ := h9 rfl
      have hb8 := hd7.bel
      clear hd7 h9 hlo hxd qk qh this
      have HK8 := Lib.hid (show World.ownsRow w8 w3.heap.size 60 3 u6 (ksU U j).length (rows (entK hz) (ksU U j)) from row_below hk7 hb8)
      have hb38 := under.below_step hb37 hb8
      have hV12 := hV8.keep hb8
      have v0 := hV12.c0
      have v1 := hV12.c1
      have v2 := hV12.c2
      have HB8 := Lib.hid hb38
      have hz8 : w3.heap.size ≤ w8.heap.size := hb38.size
      have HN := Lib.hid (cell_three_new w8 (.int .u64 (j : Nat)) (.int .u64 (vj : Nat)) (.int .u64 (hh : Nat)) 60)
      clear hV8 hb37 hk7 hb8 cT cF1 hV9 hV11 hV12 hb38
      gi_wp2
      cases b with
      | true =>
        obtain rfl : b' = false := HX.out rfl
        have HKS := Lib.hid (HKS.out.trans (if_pos rfl))
        go_wp2_with (at_builtin; refine wpList_append_own _ rfl _ _ 57 rfl w3.heap.size 60 i0 (.agg #[.int .u64 0, .int .u64 0, .int .u64 0]) 3 24 Tryz.underlying57 hi0 hq0 hq1 hq2 rfl (by decide) _ _ _ rfl (HK8.out.alloc _) ⟨w8.heap.size, 0, none⟩ 1 1 [.int .u64 (j : Nat), .int .u64 (vj : Nat), .int .u64 (hh : Nat)] rfl rfl HN.out (by simp [Value.oneCell']) (by simp only [maxLen]; omega) (by omega) (by simp; omega) ?_; intro v' w9 hown' hgrow _; have HO := Lib.hid hown'; have HG := Lib.hid hgrow; clear hown' hgrow)
        go_roundw
        case rel =>
          have hb9 := under.below_step HB8.out (new_block w8 (.cells #[.int .u64 (j : Nat), .int .u64 (vj : Nat), .int .u64 (hh : Nat)] 60))
          refine ⟨j + 1, by omega, by simp, Lib.hid ⟨hb9.grown HG.out hb9.size (fun k e => (HK8.out.lt k e).1), ?_⟩⟩
          unfold group.Kept
          rw [HKS.out, HRS.out, List.length_append]
          exact HO.out
        case measure => simp [intOf]; omega
      | false =>
        cases b' with
        | true =>
          have HKS := Lib.hid (HKS.out.trans (if_pos rfl))
          go_wp2_with (at_builtin; refine wpList_append_own _ rfl _ _ 57 rfl w3.heap.size 60 i0 (.agg #[.int .u64 0, .int .u64 0, .int .u64 0]) 3 24 Tryz.underlying57 hi0 hq0 hq1 hq2 rfl (by decide) _ _ _ rfl (HK8.out.alloc _) ⟨w8.heap.size, 0, none⟩ 1 1 [.int .u64 (j : Nat), .int .u64 (vj : Nat), .int .u64 (hh : Nat)] rfl rfl HN.out (by simp [Value.oneCell']) (by simp only [maxLen]; omega) (by omega) (by simp; omega) ?_; intro v' w9 hown' hgrow _; have HO := Lib.hid hown'; have HG := Lib.hid hgrow; clear hown' hgrow)
          go_roundw
          case rel =>
            have hb9 := under.below_step HB8.out (new_block w8 (.cells #[.int .u64 (j : Nat), .int .u64 (vj : Nat), .int .u64 (hh : Nat)] 60))
            refine ⟨j + 1, by omega, by simp, Lib.hid ⟨hb9.grown HG.out hb9.size (fun k e => (HK8.out.lt k e).1), ?_⟩⟩
            unfold group.Kept
            rw [HKS.out, HRS.out, List.length_append]
            exact HO.out
          case measure => simp [intOf]; omega
        | false =>
          have hks := HKS.out.trans (if_neg (by decide))
          go_wp2_with (fail)
          go_roundw
          case rel =>
            refine ⟨j + 1, by omega, by simp, Lib.hid ⟨HB8.out, ?_⟩⟩
            rw [hks]
            exact HK8.out
          case measure => simp [intOf]; omega
    · obtain rfl : lh = j := by omega
      obtain ⟨o, cp, rfl, hcp, hL0⟩ := kept_cap HR.out.2
      have HL0 := Lib.hid hL0
      have HRb := Lib.hid HR.out.1
      have hklh := ksU_len_le U lh
      clear HR hL0 HF0 HF1 HT0 HA0 HSe
      obtain ⟨hSd, hR0⟩ := HMd.out.run hld HRb.out
      have hHL := (LAt.of HL0.out).read (new_block wr (.cells #[.int .i64 0, .int .i64 0, .int .i64 0, .int .i64 0, .int .i64 0, .int .i64 0, .int .i64 0, .bool false] 36))
      have hVlt := HMd.out.ev.lt
      have htl : ∀ b ∈ V :: wr.heap.size :: Y.tall, b < w3.heap.size ∨ wr.heap.size ≤ b := fun b hb => by
        rcases List.mem_cons.1 hb with rfl | hb
        · exact .inl hVlt
        · rcases List.mem_cons.1 hb with rfl | hb
          · exact .inr (Nat.le_refl _)
          · obtain ⟨k, hm, _⟩ := HMd.out.m
            exact .inl (hm.tall hb).2
      have HTL := Lib.hid htl
      have hlen : ((List.range lh).countP U : Nat) = (ksU U lh).length := (ksU_length U lh).symm
      have hmem := fun (e : Sl) (he : e ∈ (ksU U lh).map (entK hz)) => ksU_mem (lh := lh) he
      have hll : ((ksU U lh).map (entK hz)).length = (ksU U lh).length := List.length_map _
      have hn0 := okN_le o0
      have p1 := okN_pos o1
      have hHU := fun (t : Nat → Tb) (ht : ∀ i, i < Y.N → (t i).n = Y.n i) i (h1 : 1 ≤ i) (hi : i < Y.N) => (show ((List.range lh).countP U : Int) < 7 * ((t i).n : Int) from by
        have := HQ.out
        rw [ht i hi, hSd.e1 i h1 hi]; omega)
      have HU := Lib.hid hHU
      have HSd := Lib.hid hSd
      have hI2 : ∃ t v, v ≤ 600 * 0 ∧ Run a w2 Y V A wr.heap.size d 0 t (Mk 0 v 0) (wr.alloc (.cells #[.int .i64 0, .int .i64 0, .int .i64 0, .int .i64 0, .int .i64 0, .int .i64 0, .int .i64 0, .bool false] 36)) ∧ Jn hz lh Y.N d 0 U t ∧ LAt w3.heap.size wr.heap.size o ((ksU U lh).map (entK hz)) (wr.alloc (.cells #[.int .i64 0, .int .i64 0, .int .i64 0, .int .i64 0, .int .i64 0, .int .i64 0, .int .i64 0, .bool false] 36)) := ⟨t0, 0, by omega, hR0, HJ0.out, hHL⟩
      have HI2 := Lib.hid hI2
      have HLN := Lib.hid hlen
      have HME := Lib.hid hmem
      have HX := Lib.hid (fun (W : World) (h : Below w2.heap.size w2 W) => (HX2.out.keep h).c0)
      clear HL0 hI2 hSd hR0 hHL hVlt htl hlen hHU HJ0 hcU HX4 HX2 HE hmem
      go_wp2_with (fail)
      generalize wr.alloc (.cells #[.int .i64 0, .int .i64 0, .int .i64 0, .int .i64 0, .int .i64 0, .int .i64 0, .int .i64 0, .bool false] 36) = W1 at *
      generalize wr.heap.size = Bm at *
      generalize hll0 : (ksU U lh).length = ll at *
      generalize (ksU U lh).map (entK hz) = l at *
      go_loopw [14] (fun i wx => ∃ n : Nat, n ≤ n0 + 1 ∧ i = .int .i64 n ∧ Hid (∃ t v, v ≤ 600 * min n n0 ∧ Run a w2 Y V A Bm d (min n n0) t (Mk 0 v (min n n0)) wx ∧ Jn hz lh Y.N d (min n n0) U t ∧ LAt w3.heap.size Bm o l wx)) (fun i _ => n0 + 1 - (intOf i).toNat)
      case atStart => exact ⟨0, by omega, rfl, by rw [Nat.zero_min]; exact HI2⟩
      case round =>
        obtain ⟨n, hn, rfl, HR⟩ := hrel
        clear HI2
        obtain ⟨t, v, hv, hR, hJ, hL⟩ := HR.out
        clear HR
        have x0 := HX.out _ hR.r.bel
        rcases Nat.lt_or_ge n (n0 + 1) with hnl | hnl
        · have hni : decide ((n : Int) ≤ (n0 : Int)) = true := decide_eq_true (by omega)
          have hni' : decide (n ≤ n0) = true := decide_eq_true (by omega)
          rw [show min n n0 = n by omega] at hv hR hJ
          have HSe := Lib.hid (hJ.seen hNN)
          have HF0 := Lib.hid (fun key (hk : key < lh) W (hb : Below wr.heap.size wr W) => nfind_any (hR.r.read hb) h0N key (hz key) (by omega) (HZ.out key hk))
          have HF1 := Lib.hid (fun key (hk : key < lh) W (hb : Below wr.heap.size wr W) => nfind_any (hR.r.read hb) (tgt_lt hNN d (hz key)) key (hz key) (by omega) (HZ.out key hk))
          have HT0 := Lib.hid (fun key (hk : key < lh) W (hb : Below wr.heap.size wr W) => target_any V Y hNN d n (hz key) hld (HZ.out key hk) W (hR.ev.keep hb))
          have HA0 := Lib.hid (fun W (hb : Below wr.heap.size wr W) => keepc hb (hR.al 0 h0N))
          have HRn := Lib.hid hR
          have HJn := Lib.hid hJ
          have HLn := Lib.hid hL
          have HV0 := Lib.hid hv
          clear hR hJ hL hv
          go_wp2_with (fail)
          go_loopw [113] (fun i wy => ∃ k : Nat, k ≤ ll ∧ i = .int .i64 k ∧ Hid (Below wr.heap.size wr wy)) (fun i _ => ll - (intOf i).toNat)
          case atStart => exact ⟨0, by omega, rfl, Lib.hid (Below.refl _ _)⟩
          case round =>
            obtain ⟨k, hk, rfl, HW⟩ := hrel
            rcases Nat.lt_or_ge k ll with hkl | hkl
            · have hki : (k : Int) < (ll : Int) := by omega
              have hkl' : k < l.length := by rw [hll]; exact hkl
              obtain ⟨x, rfl, _, _, hc0, hc1, hc2⟩ := HLn.out.read HW.out k hkl'
              obtain ⟨key, hkey, hU, hek⟩ := HME.out _ (List.getElem_mem hkl')
              rw [hek] at hc0 hc1 hc2
              obtain ⟨b, hbt⟩ : ∃ b, isThere (t 0) key (hz key) = b := ⟨_, rfl⟩
              obtain ⟨b', hbt'⟩ : ∃ b', isThere (t (tgt Y.N d (hz key))) key (hz key) = b' := ⟨_, rfl⟩
              have hex := HSe.out.ex key
              have hun := HSe.out.un key
              have f0 := HSe.out.e0 key
              have f1 := HSe.out.e1 key
              have cF0 := HF0.out key hkey
              have cF1 := HF1.out key hkey
              have cT := HT0.out key hkey
              rw [hbt] at cF0 hex hun f0
              rw [hbt'] at cF1 hex hun f1
              rw [hU] at hun
              unfold entK at hc0 hc1 hc2 f0 f1
              simp only at hc0 hc1 hc2
              have HEX := Lib.hid hex
              have HUN := Lib.hid hun
              have HF := Lib.hid (And.intro f0 f1)
              clear hex hun f0 f1 hbt hbt' hek
              generalize entOf (t 0) key (hz key) = e1 at *
              generalize entOf (t (tgt Y.N d (hz key))) key (hz key) = e2 at *
              generalize Y.T (tgt Y.N d (hz key)) = T1 at *
              generalize hY0 : Y.T 0 = T0 at *
              generalize hvj : key + 5 = vj at *
              generalize hhj : hz key = hh at *
              go_wp2_with (fail)
              have hbr6 := new_block wr (.cells #[.int .u64 (key : Nat), .int .u64 (vj : Nat), .int .u64 (hh : Nat)] 60)
              have hb6 := under.below_step HW.out hbr6
              have hV8 := EBox.new key vj hh wr
              clear hbr6 hc0 hc1 hc2
              generalize wr.alloc (.cells #[.int .u64 (key : Nat), .int .u64 (vj : Nat), .int .u64 (hh : Nat)] 60) = w6 at *
              generalize wr.heap.size = X8 at *
              have ca6 := HA0.out w6 hb6
              have hxd : FD w6 e1.key e1.val e1.hash ⟨none, false⟩ w6.drew := FD.start _ _ _ _ (under.drew_below _)
              have qa : ∀ q : movex.Un (FD w6 e1.key e1.val e1.hash), q.W.cell? ⟨A, 0, none⟩ = some (.pointer (some ⟨T0, 0, none⟩)) := fun q => keepc q.h.bel ca6
              have qk : ∀ q : movex.Un (FD w6 e1.key e1.val e1.hash), q.W.cell? ⟨X8, 0, none⟩ = some (.int .u64 (key : Nat)) := fun q => keepc q.h.bel hV8.c0
              have qh : ∀ q : movex.Un (FD w6 e1.key e1.val e1.hash), q.W.cell? ⟨X8, 2, none⟩ = some (.int .u64 (hh : Nat)) := fun q => keepc q.h.bel hV8.c2
              haveI : Nonempty (movex.Un (FD w6 e1.key e1.val e1.hash)) := ⟨⟨_, _, hxd⟩⟩
              refine (wpIn_wide (n := 3)).1 ?_
              refine movex.region (D := FD w6 e1.key e1.val e1.hash) (FM (fun _ => .tuple #[group.entV e1.key e1.val e1.hash, .bool b]) 12 13) 13 15 [false, false, false, false, false, false, false, false, true, false, false, false, true, true, false] [(8, 12)] (by kernel_rfl) (by kernel_rfl) (by kernel_rfl) (fun k s _ => FM.some _ _ _ k s) (fun i j hij => by
                simp only [List.mem_cons, Prod.mk.injEq, List.not_mem_nil, or_false] at hij
                obtain ⟨rfl, rfl⟩ := hij
                exact FM.free _ _ _ _ (by decide) (by decide)) ⟨none, false⟩ hxd ?_
              simp only [List.take_succ_cons, List.take_zero, List.drop_succ_cons, List.drop_zero]
              iterate 8
                refine movex.pure_step (fun _ _ _ => trivial) (fun K hK => ?_)
                go_simp
                refine hK _ ?_
                clear hK K
              refine movex.move_step (fun _ _ _ => trivial) (by kernel_rfl) (fun sd wd hd => ?_) ?_
              · go_simp
                refine callsIn_wide.2 ((cF0 wd (under.below_step hb6 hd.bel)).mono ?_)
                rintro e' w' ⟨rfl, hb'⟩
                exact ⟨_, rfl, sd, ⟨rfl, rfl⟩, hd.read hb'⟩
              rintro _ _ ⟨rfl, rfl⟩ K hK
              refine hK _ ?_
              clear hK K
              iterate 3
                refine movex.pure_step (fun _ _ _ => trivial) (fun K hK => ?_)
                go_simp
                refine hK _ ?_
                clear hK K
              refine movex.move_step (fun _ _ _ => trivial) (by kernel_rfl) (fun sd wd hd => ?_) ?_
              · go_simp
                exact ⟨_, ⟨_, rfl, rfl⟩, hd.put⟩
              rintro _ _ ⟨b9, rfl, rfl⟩ K hK
              refine hK _ ?_
              clear hK K
              refine movex.last_step (fun _ _ _ => trivial) (by kernel_rfl) (fun wd hd => ?_) ?_
              · obtain ⟨_, x', y', z', hB, _⟩ := hd.box b9 rfl
                have g0 := hB.c0
                have g1 := hB.c1
                have g2 := hB.c2
                have gf := hB.fz
                go_simp
                exact ⟨_, ⟨rfl, rfl⟩, hd.set⟩
              rintro _ _ ⟨rfl, rfl⟩ K hK
              refine hK _ ?_
              clear hK K
              iterate 1
                refine movex.pure_step (fun _ _ _ => trivial) (fun K hK => ?_)
                go_simp
                refine hK _ ?_
                clear hK K
              refine movex.nil_step ?_
              intro w7 hd7
              obtain ⟨hlo, x', y', z', hV9, h9⟩ := hd7.box b9 rfl
              obtain ⟨rfl, rfl, rfl⟩ := h9 rfl
              have hb7 := hd7.bel
              clear hd7 h9 hlo hxd qk qh this
              clear qa
              have hb37 := under.below_step hb6 hb7
              have hV8' := hV8.keep hb7
              clear hV8 ca6 hb6 hb7 cF0
              have hV8 := hV8'
              clear hV8'
              gi_wp2
              go_wp2_with (fail)
              have hxd : FD w7 e2.key e2.val e2.hash ⟨none, false⟩ w7.drew := FD.start _ _ _ _ (under.drew_below _)
              have qk : ∀ q : movex.Un (FD w7 e2.key e2.val e2.hash), q.W.cell? ⟨X8, 0, none⟩ = some (.int .u64 (key : Nat)) := fun q => keepc q.h.bel hV8.c0
              have qh : ∀ q : movex.Un (FD w7 e2.key e2.val e2.hash), q.W.cell? ⟨X8, 2, none⟩ = some (.int .u64 (hh : Nat)) := fun q => keepc q.h.bel hV8.c2
              haveI : Nonempty (movex.Un (FD w7 e2.key e2.val e2.hash)) := ⟨⟨_, _, hxd⟩⟩
              refine (wpIn_wide (n := 3)).1 ?_
              refine movex.region (D := FD w7 e2.key e2.val e2.hash) (FM (fun k => if k = 3 then .pointer (some ⟨T1, 0, none⟩) else .tuple #[group.entV e2.key e2.val e2.hash, .bool b']) 13 14) 14 16 [false, false, false, true, false, false, false, false, false, true, false, false, false, true, true, false] [(3, 13), (9, 13)] (by kernel_rfl) (by kernel_rfl) (by kernel_rfl) (fun k s _ => FM.some _ _ _ k s) (fun i j hij => by
                simp only [List.mem_cons, Prod.mk.injEq, List.not_mem_nil, or_false] at hij
                rcases hij with ⟨rfl, rfl⟩ | ⟨rfl, rfl⟩
                · exact FM.free _ _ _ _ (by decide) (by decide)
                · exact FM.free _ _ _ _ (by decide) (by decide)) ⟨none, false⟩ hxd ?_
              simp only [List.take_succ_cons, List.take_zero, List.drop_succ_cons, List.drop_zero]
              iterate 3
                refine movex.pure_step (fun _ _ _ => trivial) (fun K hK => ?_)
                go_simp
                refine hK _ ?_
                clear hK K
              refine movex.move_step (fun _ _ _ => trivial) (by kernel_rfl) (fun sd wd hd => ?_) ?_
              · go_simp
                refine callsIn_wide.2 ((cT wd (under.below_step hb37 hd.bel)).mono ?_)
                rintro e' w' ⟨rfl, hb'⟩
                exact ⟨_, rfl, sd, ⟨rfl, rfl⟩, hd.read hb'⟩
              rintro _ _ ⟨rfl, rfl⟩ K hK
              refine hK _ ?_
              clear hK K
              iterate 5
                refine movex.pure_step (fun _ _ _ => trivial) (fun K hK => ?_)
                go_simp
                refine hK _ ?_
                clear hK K
              refine movex.move_step (fun _ _ _ => trivial) (by kernel_rfl) (fun sd wd hd => ?_) ?_
              · go_simp
                refine callsIn_wide.2 ((cF1 wd (under.below_step hb37 hd.bel)).mono ?_)
                rintro e' w' ⟨rfl, hb'⟩
                exact ⟨_, rfl, sd, ⟨rfl, rfl⟩, hd.read hb'⟩
              rintro _ _ ⟨rfl, rfl⟩ K hK
              refine hK _ ?_
              clear hK K
              iterate 3
                refine movex.pure_step (fun _ _ _ => trivial) (fun K hK => ?_)
                go_simp
                refine hK _ ?_
                clear hK K
              refine movex.move_step (fun _ _ _ => trivial) (by kernel_rfl) (fun sd wd hd => ?_) ?_
              · go_simp
                exact ⟨_, ⟨_, rfl, rfl⟩, hd.put⟩
              rintro _ _ ⟨b11, rfl, rfl⟩ K hK
              refine hK _ ?_
              clear hK K
              refine movex.last_step (fun _ _ _ => trivial) (by kernel_rfl) (fun wd hd => ?_) ?_
              · obtain ⟨_, x', y', z', hB, _⟩ := hd.box b11 rfl
                have g0 := hB.c0
                have g1 := hB.c1
                have g2 := hB.c2
                have gf := hB.fz
                go_simp
                exact ⟨_, ⟨rfl, rfl⟩, hd.set⟩
              rintro _ _ ⟨rfl, rfl⟩ K hK
              refine hK _ ?_
              clear hK K
              iterate 1
                refine movex.pure_step (fun _ _ _ => trivial) (fun K hK => ?_)
                go_simp
                refine hK _ ?_
                clear hK K
              refine movex.nil_step ?_
              intro w8 hd7
              obtain ⟨hlo, x', y', z', hV11, h9⟩ := hd7.box b11 rfl
              obtain ⟨rfl, rfl, rfl⟩ := h9 rfl
              have hb8 := hd7.bel
              clear hd7 h9 hlo hxd qk qh this
              have hb38 := under.below_step hb37 hb8
              have hV12 := hV8.keep hb8
              have hV13 := hV9.keep hb8
              have v0 := hV12.c0
              have v1 := hV12.c1
              have v2 := hV12.c2
              have a0 := hV13.c0
              have a1 := hV13.c1
              have a2 := hV13.c2
              have c0 := hV11.c0
              have c1 := hV11.c1
              have c2 := hV11.c2
              have HB8 := Lib.hid hb38
              clear hV8 hb37 hb8 cT cF1 hV9 hV11 hV12 hV13 hb38
              gi_wp2
              cases b with
              | true =>
                obtain rfl : b' = false := HEX.out rfl
                obtain rfl : e1 = ⟨3, key, vj, hh⟩ := HF.out.1 rfl
                simp only at a0 a1 a2
                go_wp2_with (fail)
                go_roundw
                case rel => exact ⟨k + 1, by omega, by simp, HB8⟩
                case measure => simp [intOf]; omega
              | false =>
                obtain rfl : b' = true := by have := HUN.out; simpa using this.symm
                obtain rfl : e2 = ⟨3, key, vj, hh⟩ := HF.out.2 rfl
                simp only at c0 c1 c2
                go_wp2_with (fail)
                go_roundw
                case rel => exact ⟨k + 1, by omega, by simp, HB8⟩
                case measure => simp [intOf]; omega
            · obtain rfl : ll = k := by omega
              have hR := HRn.out.read HW.out
              have hL := HLn.out.read HW.out
              have hJ := HJn.out
              have hv := HV0.out
              clear HF0 HF1 HT0 HA0 HRn HLn HJn HV0 HSe HW x0
              have x0 := HX.out _ hR.r.bel
              have HLn := Lib.hid (fun j (hj : j < Y.N) W (hb : Below wr.heap.size wr W) => len_any (Y.T j) (Y.B j) (t j) W ((hR.r.read hb).at' j hj))
              have HCk := Lib.hid (fun j (hj : j < Y.N) W (hb : Below wr.heap.size wr W) => sound.check_any (H := hz) ((hR.r.read hb).rd hj) (hJ.inv j hj))
              have HAl := Lib.hid (fun j (hj : j < Y.N) W (hb : Below wr.heap.size wr W) => keepc hb (hR.al j hj))
              have HBd := Lib.hid (fun j (hj : j ≤ Y.N) => sl_bounds (t := t) (N := Y.N) (fun i hi => by have := (hR.r.ok i hi).bounds; exact ⟨this.1, this.2.1⟩) j hj)
              have hsum := hJ.sum hNN
              rw [HLN.out] at hsum
              have HSU := Lib.hid hsum
              have HRn := Lib.hid hR
              have HJn := Lib.hid hJ
              have HLt := Lib.hid hL
              have HV0 := Lib.hid hv
              clear hR hJ hL hv hsum
              go_wp2_with (fail)
              go_loopw [164, 21] (fun i s wy => ∃ j : Nat, j ≤ Y.N ∧ i = .int .i64 j ∧ s = .int .i64 (sl t j) ∧ Hid (Below wr.heap.size wr wy)) (fun i _ _ => Y.N - (intOf i).toNat)
              case atStart => exact ⟨0, by omega, rfl, rfl, Lib.hid (Below.refl _ _)⟩
              case round =>
                obtain ⟨j, hj, rfl, rfl, HW⟩ := hrel
                rcases Nat.lt_or_ge j Y.N with hjl | hjl
                · have hji : (j : Int) < (Y.N : Int) := by omega
                  have hadd2 : (⟨A, 0, none⟩ : Addr).add j = ⟨A, j, none⟩ := by rw [add_at, Nat.zero_add]
                  have hc := HAl.out j hjl wr HW.out
                  have hd1 := HBd.out j (by omega)
                  have hd2 := HBd.out (j + 1) hjl
                  have hN3 : (j : Int) ≤ 3 := by omega
                  have esl : sl t (j + 1) = sl t j + (t j).len := rfl
                  rw [esl] at hd2
                  have HES := Lib.hid esl
                  have cL := HLn.out j hjl
                  have cC := HCk.out j hjl
                  clear esl
                  generalize sl t j = z at *
                  generalize (t j).len = lj at *
                  generalize Y.T j = Tj at *
                  have ew : IntKind.i64.wrap (z + lj) = z + lj := IntWalk.i64_in _ (by omega)
                  go_wp2_with (first
                    | (go_at_call 24; refine (cL _ HW.out).mono ?_; rintro e w5 ⟨rfl, rfl⟩)
                    | (go_at_call 25; refine (cC _ HW.out).mono ?_; rintro e w5 ⟨rfl, hb5⟩))
                  go_roundw
                  case rel => exact ⟨j + 1, by omega, by simp, by rw [HES.out], Lib.hid (under.below_step HW.out hb5)⟩
                  case measure => simp [intOf]; omega
                · obtain rfl : j = Y.N := by omega
                  have hR := HRn.out.read HW.out
                  have hL := HLt.out.read HW.out
                  have hJ := HJn.out
                  have hv := HV0.out
                  clear HLn HCk HAl HBd HRn HJn HLt HV0 HW x0
                  have x0 := HX.out _ hR.r.bel
                  obtain ⟨P, hP⟩ : ∃ P : World → Prop, P = fun w' => ∃ t v, v ≤ 600 * min (n + 1) n0 ∧ Run a w2 Y V A Bm d (min (n + 1) n0) t (Mk 0 v (min (n + 1) n0)) w' ∧ Jn hz lh Y.N d (min (n + 1) n0) U t ∧ LAt w3.heap.size Bm o l w' := ⟨_, rfl⟩
                  have HXP : Hid (∀ W, P W → W.cell? ⟨w.heap.size, 0, none⟩ = some (.int .i64 (n0 : Nat))) := Lib.hid fun W h => by
                    rw [hP] at h
                    obtain ⟨_, _, _, hr, _⟩ := h
                    exact HX.out W hr.r.bel
                  have cS : ∀ W, Below wr.heap.size wr W → Calls Tryz.prog 12 #[.pointer (some ⟨V, 0, none⟩), .pointer (some ⟨Bm, 0, none⟩)] W fun e w' => e = .returned (.bool (decide (n < n0))) ∧ P w' := by
                    intro W hb
                    rcases Nat.lt_or_ge n n0 with h | h
                    · obtain ⟨hg, hJ'⟩ := hJ.step hNN (by omega) HZ.out (HU.out t hR.r.tn) (by rw [hR.r.tn 0 h0N, HSd.out.e0]; exact h)
                      refine (run_step HSd.out hv h (by omega) hg (hR.read hb)).mono fun e w' ⟨g1, g2, g3, g4⟩ => ⟨by rw [g1, decide_eq_true h], ?_⟩
                      rw [hP, show min (n + 1) n0 = n + 1 by omega]
                      exact ⟨_, _, g2, g3, hJ', (hL.read hb).past g4 HTL.out⟩
                    · obtain rfl : n = n0 := by omega
                      have hE := (hR.read hb).ev
                      have hE' : EvAt V Y d (Y.n 0) W := by rw [HSd.out.e0]; exact hE
                      refine (step_off V Y d (by rw [HSd.out.e0]; omega) (some ⟨Bm, 0, none⟩) W hE').mono fun e w' ⟨g1, g2⟩ => ⟨by rw [g1, decide_eq_false (by omega)], ?_⟩
                      rw [hP, show min (n + 1) n = n by omega]
                      exact ⟨_, _, hv, (hR.read hb).read g2, hJ, (hL.read hb).read g2⟩
                  have hdn : decide ((n : Int) < (n0 : Int)) = decide (n < n0) := by
                    by_cases h : n < n0
                    · rw [decide_eq_true h, decide_eq_true (by omega)]
                    · rw [decide_eq_false h, decide_eq_false (by omega)]
                  have HP := Lib.hid hP
                  clear hP hR hL hJ hv
                  generalize hbq : decide (n < n0) = bq at *
                  have hbb : (bq != bq) = false := by simp
                  have hll2 : (((ll : Nat) : Int) != ((ll : Nat) : Int)) = false := by simp
                  rw [HSU.out]
                  go_wp2_with (fail)
                  have hxd : GD wr w.heap.size (n0 : Nat) P false wr.drew := ⟨under.drew_below wr, keepc (under.drew_below wr) x0⟩
                  have qx : ∀ q : movex.Un (GD wr w.heap.size (n0 : Nat) P), q.W.cell? ⟨w.heap.size, 0, none⟩ = some (.int .i64 (n0 : Nat)) := fun q => q.h.2
                  haveI : Nonempty (movex.Un (GD wr w.heap.size (n0 : Nat) P)) := ⟨⟨_, _, hxd⟩⟩
                  refine (wpIn_wide (n := 3)).1 ?_
                  refine movex.region (D := GD wr w.heap.size (n0 : Nat) P) (GM bq) 7 14 [false, false, false, false, false, false, false, true, false, false, false, false, false, false] [] (by kernel_rfl) (by kernel_rfl) (by kernel_rfl) (fun k s _ => ⟨_, _, rfl, rfl⟩) (fun i j hij => by cases hij) false hxd ?_
                  simp only [List.take_succ_cons, List.take_zero, List.drop_succ_cons, List.drop_zero]
                  iterate 7
                    refine movex.pure_step (fun _ _ _ => trivial) (fun K hK => ?_)
                    go_simp
                    refine hK _ ?_
                    clear hK K
                  refine movex.last_step (fun _ _ _ => trivial) (by kernel_rfl) (fun wd hd => ?_) ?_
                  · go_simp
                    refine callsIn_wide.2 ((cS wd hd.1).mono ?_)
                    rintro e' w' ⟨rfl, hp⟩
                    exact ⟨_, rfl, .inr ⟨⟨rfl, rfl⟩, ⟨hp, HXP.out w' hp⟩⟩⟩
                  rintro _ _ ⟨rfl, rfl⟩ K hK
                  refine hK _ ?_
                  clear hK K
                  iterate 6
                    refine movex.pure_step (fun _ _ _ => trivial) (fun K hK => ?_)
                    go_simp
                    refine hK _ ?_
                    clear hK K
                  refine movex.nil_step ?_
                  intro w9 hd9
                  have hp9 : P w9 := hd9.1
                  clear hd9 hxd qx this cS
                  gi_wp2
                  go_wp2_with (fail)
                  go_roundw
                  case rel =>
                    first
                      | exact ⟨n + 1, by omega, by simp, Lib.hid (by rw [HP.out] at hp9; exact hp9)⟩
                      | (repeat (apply Exists.intro)
                         refine ⟨?_, rfl⟩
                         exact ⟨n + 1, by omega, by simp, Lib.hid (by rw [HP.out] at hp9; exact hp9)⟩)
                  case measure => simp [intOf]; omega
        · obtain rfl : n = n0 + 1 := by omega
          rw [show min (n0 + 1) n0 = n0 by omega] at hv hR hJ
          have hni : decide ((n0 : Int) + 1 ≤ (n0 : Int)) = false := decide_eq_false (by omega)
          have hni' : decide (n0 + 1 ≤ n0) = false := decide_eq_false (by omega)
          have et : (t 0).n = n0 := (hR.r.tn 0 h0N).trans HSd.out.e0
          have hl0' : (t 0).len = 0 := by
            rw [← et] at hJ
            exact hJ.none hNN
          have cL := len_any (Y.T 0) (Y.B 0) (t 0) wr (hR.r.at' 0 h0N)
          rw [hl0'] at cL
          have cF := left_any V Y d n0 (by rw [HSd.out.e0]; omega) (by rw [HSd.out.e0]; omega) wr hR.ev
          rw [HSd.out.e0, Nat.sub_self] at cF
          have hA := hR.al 0 h0N
          have HB := Lib.hid (under.below_step hb02 hR.r.bel)
          clear hR hJ hL hv et
          go_wp2_with (first
            | (go_at_call 24; refine cL.mono ?_; rintro e w5 ⟨rfl, rfl⟩)
            | (go_at_call 15; refine cF.mono ?_; rintro e w6 ⟨rfl, hb6⟩))
          go_ret
          exact ⟨rfl, under.below_step HB.out hb6⟩
theorem all_law (a : String → Addr) (old new depth : Int) (two : Bool) (sh : Option Addr) (lh ch : Nat) (sk : Option Addr) (lk ck : Nat) (sm : Option Addr) (lm cm : Nat) (hz : Nat → Nat) (ks ms : Nat → Int) (w : World) (hw : Bq a w) (hH : HashAt sh lh w hz) (hK : IntsAt sk lk w ks) (hM : IntsAt sm lm w ms) :
    Calls Tryz.prog 4 #[.agg #[.int .i64 old, .int .i64 new, .int .i64 depth, .bool two, .slice sh lh ch, .slice sk lk ck, .slice sm lm cm]] w fun e w' => e = .returned (.bool true) ∧ Below w.heap.size w w' := by
  by_cases hS : ∃ n0 n1 d, Short ⟨old, new, depth, two, sh, lh, ch, sk, lk, ck, sm, lm, cm⟩ n0 n1 d
  · obtain ⟨n0, n1, d, hS⟩ := hS
    obtain rfl : old = n0 := hS.e0
    obtain rfl : new = n1 := hS.e1
    obtain rfl : depth = d := hS.ed
    by_cases hq : lk + lm ≤ 6 * n1
    · exact all_main a n0 n1 d two sh lh ch sk lk ck sm lm cm hS hq hz ks ms w hw hH hK hM
    · exact all_many a n0 n1 d two sh lh ch sk lk ck sm lm cm hS hq hz ks ms w hw hH hK hM
  · exact all_long a ⟨old, new, depth, two, sh, lh, ch, sk, lk, ck, sm, lm, cm⟩ hS w hw
end Go.Proofs.YtibcokiijlamcaaGreatDoor.evac
