/- BuildActs: the walk. -/
import Derived.Test.YtplhgcidegngiaaGreatDoorBuildAt
import Derived.Test.YtplhgcidegngiaaGreatDoorSoundB
import Derived.LoopTactic
namespace Go.Proofs.YtplhgcidegngiaaGreatDoor.build
open Go.ChangeShapes Go.WideShapes Go.ChangeAt Go.RowKit Go.Shelf swar under trap meter group probe lens tail call table
attribute [local go_sem] Oper.semAt_some stage.pureUpon move.stepUpon
set_option linter.unusedSimpArgs false
set_option linter.unusedVariables false

/-- the acts, as they lie -/
def IntsAt (s : Option Addr) (la : Nat) (w : World) (zs : Nat → Int) : Prop := ∀ j, j < la → ∃ x, s = some x ∧ ∀ W, Below w.heap.size w W → W.cell? (x.add j) = some (.int .i64 (zs j))
theorem IntsAt.below {s : Option Addr} {la : Nat} {w w' : World} {zs : Nat → Int} (h : IntsAt s la w zs) (hb : Below w.heap.size w w') : IntsAt s la w' zs := fun j hj => by
  obtain ⟨x, h1, h3⟩ := h j hj
  exact ⟨x, h1, fun W hW => h3 W (under.below_step hb hW)⟩
def pOf (T : Nat) : Bool → Option Addr
  | true => none
  | false => some ⟨T, 0, none⟩
/-- between two rounds: the real build and the document's -/
structure BR (w : World) (D T B n k : Nat) (tk : Bool) (Bm R : Nat) (W : World) : Prop where
  s : Bs w D T B n k (pOf T tk) Bm W
  r : RBox R n k tk W
  hk : k ≤ n
  ht : tk = true → k = n
  hR : w.heap.size ≤ R
  n4 : R ∉ [D, T, B, Bm]
theorem BR.read {w : World} {D T B n k : Nat} {tk : Bool} {Bm R : Nat} {W W' : World} (h : BR w D T B n k tk Bm R W) (hb : Below W.heap.size W W') : BR w D T B n k tk Bm R W' := ⟨h.s.read hb, h.r.keep hb, h.hk, h.ht, h.hR, h.n4⟩
/-- the document's build alone has gone on -/
theorem Bs.ref {w : World} {D T B n k : Nat} {p : Option Addr} {Bm R : Nat} {W W' : World} (h : Bs w D T B n k p Bm W) (hp : Past [R] W W') (hR : w.heap.size ≤ R) (n4 : R ∉ [D, T, B, Bm]) : Bs w D T B n k p Bm W' := by
  simp only [List.mem_cons, List.not_mem_nil, or_false, not_or] at n4
  obtain ⟨n1, n2, n3, n5⟩ := n4
  exact ⟨h.bel.trans (hp.below h.bel.size (by simp; exact hR)), ⟨h.bd.bx.past hp (by simpa using Ne.symm n1), h.bd.tb.past hp (by simpa using Ne.symm n2) (by simpa using Ne.symm n3), h.bd.mt.past hp (by simpa using Ne.symm n5), h.bd.ok, h.bd.dT, h.bd.dB, h.bd.dm, h.bd.mT, h.bd.mB⟩, h.hD, h.hT, h.hB, h.hm⟩
theorem BR.start {w w0 W : World} {D T B n : Nat} {Bm : Nat} (hb0 : Below w.heap.size w w0) (h : Bs w0 D T B n 0 (some ⟨T, 0, none⟩) Bm W) {R : Nat} (hr : RBox R n 0 false W) (hR : w.heap.size ≤ R) (n4 : R ∉ [D, T, B, Bm]) : BR w D T B n 0 false Bm R W := by
  have z := hb0.size
  exact ⟨⟨under.below_step hb0 h.bel, h.bd, Nat.le_trans z h.hD, Nat.le_trans z h.hT, Nat.le_trans z h.hB, Nat.le_trans z h.hm⟩, hr, Nat.zero_le _, (fun e => by cases e), hR, n4⟩
theorem rtake_yes (R n : Nat) (w : World) (h : RBox R n n false w) : Calls Tryz.prog 11 #[.pointer (some ⟨R, 0, none⟩)] w fun e w' => e = .returned (.bool true) ∧ RBox R n n true w' ∧ Past [R] w w' := by
  have c := rtake_any R n n false w h
  rw [show takes n n false = true by unfold takes; simp] at c
  exact c
theorem rtake_no (R n k : Nat) (tk : Bool) (ht : takes n k tk = false) (w : World) (h : RBox R n k tk w) : Calls Tryz.prog 11 #[.pointer (some ⟨R, 0, none⟩)] w fun e w' => e = .returned (.bool false) ∧ RBox R n k tk w' ∧ Past [R] w w' := by
  have c := rtake_any R n k tk w h
  rw [ht, Bool.or_false] at c
  exact c
theorem rstep_same (R n : Nat) (tk : Bool) (w : World) (h : RBox R n n tk w) : Calls Tryz.prog 9 #[.pointer (some ⟨R, 0, none⟩)] w fun e w' => e = .returned (.bool false) ∧ Below w.heap.size w w' :=
  (rstep_off R n tk w h).mono fun e w' ⟨he, q, hq⟩ => ⟨he, by rw [hq]; exact below_drewN' w q⟩
/-- a new table is sound -/
theorem check_new {a : String → Addr} {T B n : Nat} {w : World} (hw : Base a w) (hn : okN n) (h : TAt T B (Tb.new n) w) (hT : 18 ≤ T) (hB : 18 ≤ B) :
    Calls Tryz.prog 14 #[.pointer (some ⟨T, 0, none⟩)] w fun e w' => e = .returned .nilIface ∧ Below w.heap.size w w' :=
  sound.check_any (ae := a) (H := fun _ => 0) ⟨h, Tb.Ok.new hn, trivial, (fun b hb => by cases hb), hw.bits, (fun b hb => by cases hb), hT, hB, errs6 hw.errs⟩ (Rep.new hn fun _ => 0).1
theorem num_state (a : String → Addr) (w : World) (h : errs.ErrsOk errs.names a w) :
    Calls Tryz.prog 7 #[errs.errV (a "ambler/api.ErrState")] w fun e w' => e = .returned (.int .i64 5) ∧ Below w.heap.size w w' := errs.num_at a 4 (by decide) w h
theorem num_rng (a : String → Addr) (w : World) (h : errs.ErrsOk errs.names a w) :
    Calls Tryz.prog 7 #[errs.errV (a "ambler/api.ErrRange")] w fun e w' => e = .returned (.int .i64 1) ∧ Below w.heap.size w w' := errs.num_at a 0 (by decide) w h
theorem acts_long (a : String → Addr) (g : Int) (s1 : Option Addr) (la ca : Nat) (hla : 100 < la) (w : World) (hw : Base a w) :
    Calls Tryz.prog 3 #[.int .i64 g, .slice s1 la ca] w fun e w' => e = .returned (.bool true) ∧ Below w.heap.size w w' := by
  have hAl := alive_any a w hw
  have d1 : decide ((100 : Int) < (la : Int)) = true := decide_eq_true (by omega)
  clear hw
  go_enter Tryz.func3, Tryz.ntmps3
  go_wp2_with (go_at_call 4; refine hAl.mono ?_; rintro e w0 ⟨rfl, hb0⟩)
  go_ret
  exact ⟨rfl, hb0⟩
set_option maxRecDepth 20000 in
theorem acts_no (a : String → Addr) (g : Int) (hg : ¬ ∃ k : Nat, g = k ∧ okN k) (s1 : Option Addr) (la ca : Nat) (hla : la ≤ 100) (w : World) (hw : Base a w) :
    Calls Tryz.prog 3 #[.int .i64 g, .slice s1 la ca] w fun e w' => e = .returned (.bool true) ∧ Below w.heap.size w w' := by
  have hAl := alive_any a w hw
  have d1 : decide ((100 : Int) < (la : Int)) = false := decide_eq_false (by omega)
  have HW := Lib.hid hw
  have HN := Lib.hid (fun W (hb : Below w.heap.size w W) => new_no g hg W _ (errs6 (hw.errs.below hb)).two.range)
  have HRt := Lib.hid (fun W => rright_no g hg W)
  have hbn := bld_none
  clear hw hg
  go_enter Tryz.func3, Tryz.ntmps3
  go_wp2_with (first
    | (go_at_call 4; refine hAl.mono ?_; rintro e w0 ⟨rfl, hb0⟩)
    | (go_at_call 5; refine (HN.out _ hb0).mono ?_; rintro e w1 ⟨rfl, hb1⟩)
    | (go_at_call 6; refine (HRt.out _).mono ?_; rintro e w2 ⟨rfl, rfl⟩)
    | (go_at_call 7; refine (num_rng a _ (HW.out.errs.below (under.below_step hb0 hb1))).mono ?_; rintro e w3 ⟨rfl, hb3⟩))
  go_ret
  exact ⟨rfl, under.below_step (under.below_step hb0 hb1) hb3⟩
theorem len_cell (T : Nat) (w : World) (h1 : w.cell? ⟨T, 1, none⟩ = some (.int .i64 0)) : Calls Tryz.prog 13 #[.pointer (some ⟨T, 0, none⟩)] w fun e w' => e = .returned (.int .i64 0) ∧ w = w' := by
  go_enter Tryz.func13, Tryz.ntmps13
  go_wp2
  go_ret
  exact ⟨rfl, rfl⟩
set_option maxRecDepth 100000 in
set_option maxHeartbeats 8000000 in
theorem acts_yes (a : String → Addr) (n : Nat) (hn : okN n) (s1 : Option Addr) (la ca : Nat) (zs : Nat → Int) (hla : la ≤ 100) (w : World) (hw : Base a w) (hA : IntsAt s1 la w zs) :
    Calls Tryz.prog 3 #[.int .i64 n, .slice s1 la ca] w fun e w' => e = .returned (.bool true) ∧ Below w.heap.size w w' := by
  have hAl := alive_any a w hw
  have d1 : decide ((100 : Int) < (la : Int)) = false := decide_eq_false (by omega)
  have HW := Lib.hid hw
  have HA := Lib.hid hA
  have hn64 := okN_le hn
  have hbs := bld_some
  have hts := tab_some
  have htn := tab_none
  clear hw hA
  go_enter Tryz.func3, Tryz.ntmps3
  go_wp2_with (first
    | (go_at_call 4; refine hAl.mono ?_; rintro e w0 ⟨rfl, hb0⟩)
    | (go_at_call 5; refine (new_yes n hn _).mono ?_; rintro e w1 ⟨D, rfl, hD, hx1, hp1, hb1⟩)
    | (go_at_call 6; refine (rright_yes n hn _).mono ?_; rintro e w2 ⟨rfl, rfl⟩))
  have hb2 := new_block w1 (.cells #[.int .i64 (n : Nat), .int .i64 0, .bool false] 33)
  have hr2 := RBox.new n w1
  have l1 := hx1.lt
  have l2 := hp1.lt
  have l3 := hp1.lb
  have hS0 := Bs.start (under.below_step hb1 hb2) (hx1.keep hb2) (hp1.below hb2) hD
  have hb3 := new_block (w1.alloc (.cells #[.int .i64 (n : Nat), .int .i64 0, .bool false] 33)) (.cells #[.int .i64 0, .int .i64 0, .int .i64 0, .int .i64 0, .int .i64 0, .int .i64 0, .int .i64 0, .bool false] 38)
  have hz : (w1.alloc (.cells #[.int .i64 (n : Nat), .int .i64 0, .bool false] 33)).heap.size = w1.heap.size + 1 := World.size_alloc _ _
  have hB0 := BR.start hb0 hS0 (hr2.keep hb3) (Nat.le_trans hb0.size hb1.size) (by simp only [List.mem_cons, List.not_mem_nil, or_false, not_or]; omega)
  rw [hz] at hB0
  clear hS0 hr2 hb2 hb3 hz hx1 hp1
  generalize (w1.alloc (.cells #[.int .i64 (n : Nat), .int .i64 0, .bool false] 33)).alloc (.cells #[.int .i64 0, .int .i64 0, .int .i64 0, .int .i64 0, .int .i64 0, .int .i64 0, .int .i64 0, .bool false] 38) = W0 at hB0 ⊢
  go_wp2_with (fail)
  have HB0 := Lib.hid hB0
  clear hB0 hb0 hb1 hD l1 l2 l3 hAl d1
  generalize w1.heap.size + 1 = Bm at HB0 ⊢
  generalize w1.heap.size = R at HB0 ⊢
  generalize w0.heap.size + 1 = T at HB0 ⊢
  generalize w0.heap.size = B at HB0 ⊢
  go_loopw [46] (fun i wr => ∃ (j k : Nat) (tk : Bool), j ≤ la ∧ i = .int .i64 j ∧ Hid (BR w D T B n k tk Bm R wr)) (fun i _ => la - (intOf i).toNat)
  case atStart => exact ⟨0, 0, false, by omega, rfl, HB0⟩
  case round =>
    obtain ⟨j, k, tk, hj, rfl, HR⟩ := hrel
    clear HB0
    rcases Nat.lt_or_ge j la with hjl | hjl
    · have hji : (j : Int) < (la : Int) := by omega
      obtain ⟨y, rfl, hcy⟩ := HA.out j hjl
      have hc := hcy _ HR.out.s.bel
      clear hcy
      generalize zs j = zj at *
      by_cases h0 : 0 ≤ zj
      · have d0 : decide (0 ≤ zj) = true := decide_eq_true h0
        rcases Nat.lt_or_ge k n with hkn | hkn
        · as_aux_lemma =>
            obtain rfl : tk = false := by
              cases tk
              · rfl
              · exact absurd (HR.out.ht rfl) (by omega)
            go_wp2_with (first
              | (go_at_call 8; refine (HR.out.s.step HW.out hkn hn64).mono ?_; rintro e w4 ⟨rfl, hs4, hp4⟩; have hr4 := HR.out.r.past hp4 HR.out.n4)
              | (go_at_call 9; refine (rstep_on R n k false hkn hn64 _ hr4).mono ?_; rintro e wx ⟨rfl, hr5, hp5⟩; have HX := Lib.hid (show BR w D T B n (k + 1) false Bm R wx from ⟨hs4.ref hp5 HR.out.hR HR.out.n4, hr5, by omega, (fun e => by cases e), HR.out.hR, HR.out.n4⟩); clear hs4 hp4 hr4 hr5 hp5))
            obtain ⟨K, hK⟩ : ∃ K, K = (k + 1) := ⟨_, rfl⟩
            have HX : Hid (BR w D T B n K false Bm R wx) := by rw [hK]; exact HX
            clear hK
            have y0 := Under.cell HX.out.r.c1
            have e1 := sub_small HX.out.hk hn64
            have kL := fun (q : Under wx) => left_any D n K _ HX.out.hk hn64 q.W (HX.out.s.bd.bx.keep q.below)
            have kG := fun (q : Under wx) => groups_any D n K _ q.W (HX.out.s.bd.bx.keep q.below)
            have kA := fun (q : Under wx) => all_at Bm K q.W (HX.out.s.bd.mt.below q.below)
            refine wp_region_under (by kernel_rfl) (by kernel_rfl) ?_
            repeat (go_big_quiet_step (first
              | (go_at_call 15; (with_reducible refine under_drew (kL _)))
              | (go_at_call 16; (with_reducible refine under_same (kG _)))
              | (go_at_call 17; (with_reducible refine under_call (kA _)))))
            refine wpQuiet_nil ?_
            intro wz hwz
            obtain ⟨z9, rfl⟩ := hwz
            have HY := Lib.hid (HX.out.read z9.below)
            clear kL kG kA y0 e1 HX
            generalize z9.W = w9 at HY ⊢
            go_wp2
            go_roundw
            case rel => exact ⟨j + 1, K, false, by omega, by simp, HY⟩
            case measure => simp [intOf]; omega
        · have hkn2 := HR.out.hk
          as_aux_lemma =>
            obtain rfl : k = n := by omega
            go_wp2_with (first
              | (go_at_call 8; refine (step_off D k _ hn64 _ _ HR.out.s.bd.bx).mono ?_; rintro e w4 ⟨rfl, q, rfl⟩; have h4 := HR.out.read (below_drewN' wr q))
              | (go_at_call 9; refine (rstep_same R k tk _ h4.r).mono ?_; rintro e wx ⟨rfl, hb5⟩; have HX := Lib.hid (h4.read hb5); clear h4 hb5))
            obtain ⟨K, hK⟩ : ∃ K, K = k := ⟨_, rfl⟩
            have HX : Hid (BR w D T B k K tk Bm R wx) := by rw [hK]; exact HX
            clear hK
            have y0 := Under.cell HX.out.r.c1
            have e1 := sub_small HX.out.hk hn64
            have kL := fun (q : Under wx) => left_any D k K _ HX.out.hk hn64 q.W (HX.out.s.bd.bx.keep q.below)
            have kG := fun (q : Under wx) => groups_any D k K _ q.W (HX.out.s.bd.bx.keep q.below)
            have kA := fun (q : Under wx) => all_at Bm K q.W (HX.out.s.bd.mt.below q.below)
            refine wp_region_under (by kernel_rfl) (by kernel_rfl) ?_
            repeat (go_big_quiet_step (first
              | (go_at_call 15; (with_reducible refine under_drew (kL _)))
              | (go_at_call 16; (with_reducible refine under_same (kG _)))
              | (go_at_call 17; (with_reducible refine under_call (kA _)))))
            refine wpQuiet_nil ?_
            intro wz hwz
            obtain ⟨z9, rfl⟩ := hwz
            have HY := Lib.hid (HX.out.read z9.below)
            clear kL kG kA y0 e1 HX
            generalize z9.W = w9 at HY ⊢
            go_wp2
            go_roundw
            case rel => exact ⟨j + 1, K, tk, by omega, by simp, HY⟩
            case measure => simp [intOf]; omega
      · have d0 : decide (0 ≤ zj) = false := decide_eq_false h0
        cases tk
        · rcases Nat.lt_or_ge k n with hkn | hkn
          · as_aux_lemma =>
              go_wp2_with (first
                | (go_at_call 10; refine (take_early D n k _ hkn hn64 wr HR.out.s.bd.bx _ (errs6 (HW.out.below HR.out.s.bel).errs).two.state).mono ?_; rintro e w4 ⟨rfl, hb4⟩; have h4 := HR.out.read hb4)
                | (go_at_call 11; refine (rtake_no R n k false (by unfold takes; simp; try omega) _ h4.r).mono ?_; rintro e w5 ⟨rfl, hr5, hp5⟩; have h5 := (show BR w D T B n k false Bm R w5 from ⟨h4.s.ref hp5 h4.hR h4.n4, hr5, h4.hk, h4.ht, h4.hR, h4.n4⟩); clear h4 hr5 hp5)
                | (go_at_call 7; refine (num_state a _ (HW.out.below h5.s.bel).errs).mono ?_; rintro e wx ⟨rfl, hb6⟩; have HX := Lib.hid (h5.read hb6); clear h5 hb6))
              obtain ⟨K, hK⟩ : ∃ K, K = k := ⟨_, rfl⟩
              have HX : Hid (BR w D T B n K false Bm R wx) := by rw [hK]; exact HX
              clear hK
              have y0 := Under.cell HX.out.r.c1
              have e1 := sub_small HX.out.hk hn64
              have kL := fun (q : Under wx) => left_any D n K _ HX.out.hk hn64 q.W (HX.out.s.bd.bx.keep q.below)
              have kG := fun (q : Under wx) => groups_any D n K _ q.W (HX.out.s.bd.bx.keep q.below)
              have kA := fun (q : Under wx) => all_at Bm K q.W (HX.out.s.bd.mt.below q.below)
              refine wp_region_under (by kernel_rfl) (by kernel_rfl) ?_
              repeat (go_big_quiet_step (first
                | (go_at_call 15; (with_reducible refine under_drew (kL _)))
                | (go_at_call 16; (with_reducible refine under_same (kG _)))
                | (go_at_call 17; (with_reducible refine under_call (kA _)))))
              refine wpQuiet_nil ?_
              intro wz hwz
              obtain ⟨z9, rfl⟩ := hwz
              have HY := Lib.hid (HX.out.read z9.below)
              clear kL kG kA y0 e1 HX
              generalize z9.W = w9 at HY ⊢
              go_wp2
              go_roundw
              case rel => exact ⟨j + 1, K, false, by omega, by simp, HY⟩
              case measure => simp [intOf]; omega
          · obtain rfl : n = k := by have := HR.out.hk; omega
            as_aux_lemma =>
              go_wp2_with (first
                | (go_at_call 10; refine (HR.out.s.take hn64).mono ?_; rintro e w4 ⟨rfl, hs4, hp4⟩; have hr4 := HR.out.r.past (hp4.mono (d' := [D, T, B, Bm]) (by simp)) HR.out.n4)
                | (go_at_call 11; refine (rtake_yes R n _ hr4).mono ?_; rintro e w5 ⟨rfl, hr5, hp5⟩; have h5 := (show BR w D T B n n true Bm R w5 from ⟨hs4.ref hp5 HR.out.hR HR.out.n4, hr5, Nat.le_refl _, (fun _ => rfl), HR.out.hR, HR.out.n4⟩); clear hs4 hp4 hr4 hr5 hp5; have hT5 := h5.s.bd.tb.all)
                | (go_at_call 12; refine (table.groups_any _ _ _ _ hT5).mono ?_; rintro e w6 ⟨rfl, rfl⟩)
                | (go_at_call 13; refine (len_cell T _ (show _ from hT5.len)).mono ?_; rintro e w7 ⟨rfl, rfl⟩)
                | (go_at_call 14; refine (check_new (HW.out.below h5.s.bel) hn hT5 (Nat.le_trans HW.out.far h5.s.hT) (Nat.le_trans HW.out.far h5.s.hB)).mono ?_; rintro e wx ⟨rfl, hb6⟩; have HX := Lib.hid (h5.read hb6); clear h5 hb6 hT5))
              obtain ⟨K, hK⟩ : ∃ K, K = n := ⟨_, rfl⟩
              have HX : Hid (BR w D T B n K true Bm R wx) := by rw [hK]; exact HX
              clear hK
              have y0 := Under.cell HX.out.r.c1
              have e1 := sub_small HX.out.hk hn64
              have kL := fun (q : Under wx) => left_any D n K _ HX.out.hk hn64 q.W (HX.out.s.bd.bx.keep q.below)
              have kG := fun (q : Under wx) => groups_any D n K _ q.W (HX.out.s.bd.bx.keep q.below)
              have kA := fun (q : Under wx) => all_at Bm K q.W (HX.out.s.bd.mt.below q.below)
              refine wp_region_under (by kernel_rfl) (by kernel_rfl) ?_
              repeat (go_big_quiet_step (first
                | (go_at_call 15; (with_reducible refine under_drew (kL _)))
                | (go_at_call 16; (with_reducible refine under_same (kG _)))
                | (go_at_call 17; (with_reducible refine under_call (kA _)))))
              refine wpQuiet_nil ?_
              intro wz hwz
              obtain ⟨z9, rfl⟩ := hwz
              have HY := Lib.hid (HX.out.read z9.below)
              clear kL kG kA y0 e1 HX
              generalize z9.W = w9 at HY ⊢
              go_wp2
              go_roundw
              case rel => exact ⟨j + 1, K, true, by omega, by simp, HY⟩
              case measure => simp [intOf]; omega
        · obtain rfl : k = n := HR.out.ht rfl
          as_aux_lemma =>
            go_wp2_with (first
              | (go_at_call 10; refine (take_twice D k hn64 wr HR.out.s.bd.bx _ (errs6 (HW.out.below HR.out.s.bel).errs).two.state).mono ?_; rintro e w4 ⟨rfl, hb4⟩; have h4 := HR.out.read hb4)
              | (go_at_call 11; refine (rtake_no R k k true (by unfold takes; simp; try omega) _ h4.r).mono ?_; rintro e w5 ⟨rfl, hr5, hp5⟩; have h5 := (show BR w D T B k k true Bm R w5 from ⟨h4.s.ref hp5 h4.hR h4.n4, hr5, h4.hk, h4.ht, h4.hR, h4.n4⟩); clear h4 hr5 hp5)
              | (go_at_call 7; refine (num_state a _ (HW.out.below h5.s.bel).errs).mono ?_; rintro e wx ⟨rfl, hb6⟩; have HX := Lib.hid (h5.read hb6); clear h5 hb6))
            obtain ⟨K, hK⟩ : ∃ K, K = k := ⟨_, rfl⟩
            have HX : Hid (BR w D T B k K true Bm R wx) := by rw [hK]; exact HX
            clear hK
            have y0 := Under.cell HX.out.r.c1
            have e1 := sub_small HX.out.hk hn64
            have kL := fun (q : Under wx) => left_any D k K _ HX.out.hk hn64 q.W (HX.out.s.bd.bx.keep q.below)
            have kG := fun (q : Under wx) => groups_any D k K _ q.W (HX.out.s.bd.bx.keep q.below)
            have kA := fun (q : Under wx) => all_at Bm K q.W (HX.out.s.bd.mt.below q.below)
            refine wp_region_under (by kernel_rfl) (by kernel_rfl) ?_
            repeat (go_big_quiet_step (first
              | (go_at_call 15; (with_reducible refine under_drew (kL _)))
              | (go_at_call 16; (with_reducible refine under_same (kG _)))
              | (go_at_call 17; (with_reducible refine under_call (kA _)))))
            refine wpQuiet_nil ?_
            intro wz hwz
            obtain ⟨z9, rfl⟩ := hwz
            have HY := Lib.hid (HX.out.read z9.below)
            clear kL kG kA y0 e1 HX
            generalize z9.W = w9 at HY ⊢
            go_wp2
            go_roundw
            case rel => exact ⟨j + 1, K, true, by omega, by simp, HY⟩
            case measure => simp [intOf]; omega
    · obtain rfl : j = la := by omega
      go_wp2
      go_ret
      exact ⟨rfl, HR.out.s.bel⟩
theorem acts_law (a : String → Addr) (g : Int) (s1 : Option Addr) (la ca : Nat) (zs : Nat → Int) (w : World) (hw : Base a w) (hA : IntsAt s1 la w zs) :
    Calls Tryz.prog 3 #[.int .i64 g, .slice s1 la ca] w fun e w' => e = .returned (.bool true) ∧ Below w.heap.size w w' := by
  by_cases hl : 100 < la
  · exact acts_long a g s1 la ca hl w hw
  · by_cases hg : ∃ k : Nat, g = k ∧ okN k
    · obtain ⟨n, rfl, hn⟩ := hg
      exact acts_yes a n hn s1 la ca zs (by omega) w hw hA
    · exact acts_no a g hg s1 la ca (by omega) w hw
end Go.Proofs.YtplhgcidegngiaaGreatDoor.build
