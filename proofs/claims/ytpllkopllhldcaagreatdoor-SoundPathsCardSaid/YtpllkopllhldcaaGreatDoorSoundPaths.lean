/- SoundPaths: the walk. -/
import Derived.Test.YtpllkopllhldcaaGreatDoorSoundC
import Derived.Test.YtpllkopllhldcaaGreatDoorMoves
import Derived.Laws.BitsAllLaws
import Derived.LoopTactic
namespace Go.Proofs.YtpllkopllhldcaaGreatDoor.sound
open Go.ChangeShapes Go.WideShapes Go.ChangeAt Go.RowKit Go.Shelf swar under trap meter group probe lens tail call table
attribute [local go_sem] Oper.semAt_some stage.pureUpon moves.stepUpon
set_option linter.unusedSimpArgs false
set_option linter.unusedVariables false

theorem szRef2 : (Tryz.prog.info? 79).map (·.size) = some 2 := by kernel_rfl
theorem ptr_ref2 (x : Addr) (w : World) : (Op.equalIn 10000 26 (.pointer (some x)) (.pointer none)).run Tryz.prog w = .ok false w := by
  obtain ⟨j, hj, _⟩ := Option.map_eq_some_iff.1 szRef2
  have h : ∀ d : Nat, (Op.equalIn (d + 1) 26 (.pointer (some x)) (.pointer none)).run Tryz.prog w = .ok false w := fun d => by
    simp [Op.equalIn, run_underlying Tryz.underlying26, sizeOf, typeInfo, hj, sameAddr]
  exact h 9999
/-- a hash's upper part with another lower part -/
def md (h l : Nat) : Nat := (h &&& (18446744073709551615 - 127)) ||| (l &&& 127)
theorem md_lt (h l : Nat) (hh : h < 18446744073709551616) : md h l < 18446744073709551616 := by
  have h1 : h &&& (18446744073709551615 - 127) < 2 ^ 64 := Nat.lt_of_le_of_lt Nat.and_le_left hh
  have h2 : l &&& 127 < 2 ^ 64 := Nat.lt_of_le_of_lt Nat.and_le_right (by decide)
  exact Nat.or_lt_two_pow h1 h2
theorem md_div (h l : Nat) (hh : h < 18446744073709551616) : md h l / 128 = h / 128 := by
  have e : ∀ x : Nat, x / 128 = x >>> 7 := fun x => (Nat.shiftRight_eq_div_pow x 7).symm
  rw [e, e]
  unfold md
  rw [Nat.shiftRight_or_distrib, Nat.shiftRight_and_distrib, Nat.shiftRight_and_distrib]
  rw [show (127 : Nat) >>> 7 = 0 from by decide, Nat.and_zero, Nat.or_zero, show (18446744073709551615 - 127 : Nat) >>> 7 = 2 ^ 57 - 1 from by decide +kernel, Nat.and_two_pow_sub_one_eq_mod, ← e]
  exact Nat.mod_eq_of_lt (by omega)
theorem md_int (h l : Nat) (hh : h < 18446744073709551616) (hl : l < 18446744073709551616) : bits .or .u64 (bits .andNot .u64 (h : Int) 127) (bits .and .u64 (l : Int) 127) = ((md h l : Nat) : Int) := by
  have h1 : h &&& (18446744073709551615 - 127) < 18446744073709551616 := Nat.lt_of_le_of_lt Nat.and_le_left hh
  have h2 : l &&& 127 < 18446744073709551616 := Nat.lt_of_le_of_lt Nat.and_le_right (by decide)
  have e1 := u64_andNot_nat h 127 hh (by decide)
  have e2 := u64_and_nat l 127 hl (by decide)
  rw [show ((127 : Nat) : Int) = 127 from rfl] at e1 e2
  rw [e1, e2, u64_or_nat _ _ h1 h2]; rfl
theorem po_congr (t : Tb) {h h' : Nat} (e : h / 128 = h' / 128) : po t h = po t h' := by unfold po path; rw [e]
theorem po_first {t : Tb} (h : Nat) (hn : okN t.n) : ∃ r, po t h = (h / 128 % t.n) :: r := by
  have hp := okN_pos hn
  unfold po path wl
  obtain ⟨m, hm⟩ := Nat.exists_eq_succ_of_ne_zero (Nat.pos_iff_ne_zero.1 hp)
  rw [hm, List.range_succ_eq_map, List.map_cons]
  have e : plc (h / 128) (m + 1) 0 = h / 128 % (m + 1) := by unfold plc; simp
  rw [e]
  unfold table.seen
  split
  · exact ⟨[], rfl⟩
  · exact ⟨_, rfl⟩
theorem po_nodup {t : Tb} (h : Nat) (hn : okN t.n) : (po t h).Nodup := List.Sublist.nodup (po_prefix t h).sublist (wl_nodup _ _ hn)
theorem cv_8 (h u : Nat) (hu : h / 128 % 8 = u) : wrap64 ((h : Int) / 128 % 8) = (u : Int) := by unfold wrap64; omega
theorem ne_8 (h u : Nat) (hu : h / 128 % 8 = u) : ((u : Int) != (h : Int) / 128 % 8) = false := by
  have e : (u : Int) = (h : Int) / 128 % 8 := by omega
  rw [e]; simp
theorem has_no (f : Nat → Nat) (len g c x : Nat) (w : World) (hl : len ≤ 64) (h1 : ∀ j, j < len → w.cell? ⟨g, j, none⟩ = some (.int .i64 (f j : Nat))) (hx : ∀ j, j < len → f j ≠ x) :
    Calls Tryz.prog 19 #[.slice (some ⟨g, 0, none⟩) len c, .int .i64 x] w fun e w' => e = .returned (.bool false) ∧ w = w' := by
  have H1 := Lib.hid h1
  have HX := Lib.hid hx
  clear h1 hx
  go_enter Tryz.func19, Tryz.ntmps19
  go_wp2
  go_loop [9] (fun i => ∃ k : Nat, k ≤ len ∧ i = .int .i64 k) (fun i => len - (intOf i).toNat)
  case atStart => exact ⟨0, by omega, rfl⟩
  case round =>
    obtain ⟨k, hk, rfl⟩ := hrel
    by_cases hlt : k < len
    · have a1 := H1.out k hlt
      have a2 : ((f k : Int) == (x : Int)) = false := beq_eq_false_iff_ne.2 (by have := HX.out k hlt; omega)
      have a3 : (f k == x) = false := beq_eq_false_iff_ne.2 (HX.out k hlt)
      generalize f k = y at *
      go_wp2
      go_round
      case rel => exact ⟨k + 1, by omega, by go_num⟩
      case measure => simp [intOf]; omega
    · go_wp2
      go_ret
      exact ⟨rfl, rfl⟩
theorem paths_no (a : String → Addr) (l0 l1 : Nat) (s1 s2 : Option Addr) (la ca lb cb : Nat) (hc : noMade 8 la lb) (w : World) (hw : Bs a w) :
    Calls Tryz.prog 5 #[.slice s1 la ca, .slice s2 lb cb, .agg #[.int .u64 (l0 : Nat), .int .u64 (l1 : Nat)]] w fun e w' => e = .returned (.bool true) ∧ Below w.heap.size w w' := by
  have hb0 := new_block w (.cells #[.int .u64 (l0 : Nat), .int .u64 (l1 : Nat)] 45)
  have hA := alive_any a _ (hw.below hb0)
  have cM := fun W (hb : Below _ _ W) => made_no a 8 s1 s2 la ca lb cb hc W ((hw.below hb0).below hb)
  have hpn := ptr_none
  clear hw hc
  go_enter Tryz.func5, Tryz.ntmps5
  go_wp2_with (first
    | (go_at_call 6; refine hA.mono ?_; rintro e w1 ⟨rfl, hb1⟩)
    | (go_at_call 7; refine (cM _ hb1).mono ?_; rintro e w2 ⟨rfl, hb2⟩))
  go_ret
  exact ⟨rfl, under.below_step hb0 (under.below_step hb1 hb2)⟩
/-- the paths that have been made: where they lie -/
structure St where
  a : Option Nat
  b : Option Nat
def PD (w3 : World) (l : Nat) (f : Nat → Nat) (s : St) (W : World) : Prop :=
  Below w3.heap.size w3 W ∧ (∀ g, s.a = some g → ∀ j, j < l → W.cell? ⟨g, j, none⟩ = some (.int .i64 (f j : Nat))) ∧ (∀ g, s.b = some g → ∀ j, j < l → W.cell? ⟨g, j, none⟩ = some (.int .i64 (f j : Nat)))
def PM (l : Nat) (k : Nat) (s : St) (v : Value) (s' : St) : Prop := ∃ g c, l ≤ c ∧ v = .slice (some ⟨g, 0, none⟩) l c ∧ s' = if k = 7 then ⟨some g, s.b⟩ else ⟨s.a, some g⟩
theorem PM.some (l k : Nat) (s : St) : ∃ v s', PM l k s v s' := ⟨_, _, 0, l, Nat.le_refl _, rfl, rfl⟩
theorem PD.read {w3 : World} {l : Nat} {f : Nat → Nat} {s : St} {W W' : World} (h : PD w3 l f s W) (hb : Below W.heap.size W W') : PD w3 l f s W' :=
  ⟨under.below_step h.1 hb, fun g e j hj => keepc hb (h.2.1 g e j hj), fun g e j hj => keepc hb (h.2.2 g e j hj)⟩
theorem path_row2 {base : Nat} {W : World} {v : Value} {t : Tb} {h : Nat} (hn : okN t.n) (hK : probe.Kept base W v (po t h)) : ∃ g c, v = .slice (Option.some ⟨g, 0, none⟩) (po t h).length c ∧ (po t h).length ≤ c ∧ ∀ j, j < (po t h).length → W.cell? ⟨g, j, none⟩ = Option.some (.int .i64 ((po t h)[j]?.getD 0 : Nat)) := by
  obtain ⟨g, c, h1, h2, _, h4⟩ := hK.cells (po_ne h hn)
  refine ⟨g, c, h1, ?_, fun j hj => ?_⟩
  · subst h1
    rcases hK.1.2 with ⟨e, _⟩ | ⟨g', c', cur, e, _, _, e2, _⟩
    · cases e
    · cases e; exact e2
  · rw [h4 j hj]
set_option maxRecDepth 100000 in
set_option maxHeartbeats 8000000 in
theorem paths_few (a : String → Addr) (l0 l1 : Nat) (hl0 : l0 < 18446744073709551616) (hl1 : l1 < 18446744073709551616) (s1 s2 : Option Addr) (la ca lb cb : Nat) (hz : Nat → Nat) (az : Nat → Ac) (h1 : 1 ≤ la) (h2 : la ≤ 100) (h3 : lb ≤ 120) (w : World) (hw : Bs a w) (hH : HashAt s1 la w hz) (hA : ActAt s2 lb w az) :
    Calls Tryz.prog 5 #[.slice s1 la ca, .slice s2 lb cb, .agg #[.int .u64 (l0 : Nat), .int .u64 (l1 : Nat)]] w fun e w' => e = .returned (.bool true) ∧ Below w.heap.size w w' := by
  have hb0 := new_block w (.cells #[.int .u64 (l0 : Nat), .int .u64 (l1 : Nat)] 45)
  have hr0 := World.alloc_heap_new w (.cells #[.int .u64 (l0 : Nat), .int .u64 (l1 : Nat)] 45)
  have x0 : (w.alloc (.cells #[.int .u64 (l0 : Nat), .int .u64 (l1 : Nat)] 45)).cell? ⟨w.heap.size, 0, none⟩ = some (.int .u64 (l0 : Nat)) := by rw [cell_of_row _ _ _ _ _ _ hr0]; rfl
  have x1 : (w.alloc (.cells #[.int .u64 (l0 : Nat), .int .u64 (l1 : Nat)] 45)).cell? ⟨w.heap.size, 1, none⟩ = some (.int .u64 (l1 : Nat)) := by rw [cell_of_row _ _ _ _ _ _ hr0]; rfl
  have hAl := alive_any a _ (hw.below hb0)
  have ok8 : okN 8 := by unfold okN; decide
  have cM := fun W (hb : Below _ _ W) => made_few a 8 ok8 (by decide) s1 s2 la ca lb cb hz az h1 h2 h3 W ((hw.below hb0).below hb) ((hH.below hb0).below hb) ((hA.below hb0).below hb)
  have hpt := ptr_tab
  have hpr := ptr_ref2
  have HH := Lib.hid hH
  have HB0 := Lib.hid hb0
  clear hw hH hA hr0 hb0
  go_enter Tryz.func5, Tryz.ntmps5
  go_wp2_with (first
    | (go_at_call 6; refine hAl.mono ?_; rintro e w1 ⟨rfl, hb1⟩; have x0' := keepc hb1 x0; have x1' := keepc hb1 x1)
    | (go_at_call 7; refine (cM _ hb1).mono ?_; rintro e w2 ⟨T, B, f, rfl, t, k, M, hk, htn, hRep, hS⟩; have HTN := Lib.hid htn; have hbS := hS.bel; have cT := text_tab T B t hRep.1.ok w2 hS.rd.at'; have htl := texts_length t t.n)
    | (go_at_call 17; refine cT.mono ?_; rintro e w3 ⟨v, rfl, hK, hb3⟩; obtain ⟨o, c, rfl, hx⟩ := hK.texts; rw [htl] at hK ⊢; rw [htn] at hK hx ⊢))
  clear htn htl cT cM hAl
  have hok := hRep.1.ok
  have HTx := Lib.hid (show TextsAt o (texts t 8) w3 from hx)
  have x03 := keepc hb3 (keepc hbS x0')
  have x13 := keepc hb3 (keepc hbS x1')
  have HS3 := Lib.hid (hS.read hb3)
  have HR := Lib.hid hRep
  have HBW := Lib.hid (under.below_step HB0.out hb1)
  clear hx hK hb3 hS hbS hRep x0 x1 x0' x1' hb1 hk HB0
  go_loopw [34] (fun i wr => ∃ j : Nat, j ≤ la ∧ i = .int .i64 j ∧ Hid (Below w3.heap.size w3 wr)) (fun i _ => la - (intOf i).toNat)
  case atStart => exact ⟨0, by omega, rfl, Lib.hid (Below.refl _ _)⟩
  case round =>
    obtain ⟨j, hj, rfl, HO⟩ := hrel
    rcases Nat.lt_or_ge j la with hjl | hjl
    · have hji : (j : Int) < (la : Int) := by omega
      obtain ⟨y, rfl, hh, hcy⟩ := HH.out j hjl
      have hS := HS3.out.read HO.out
      have hc := hcy _ (under.below_step HBW.out hS.bel)
      generalize hz j = hs at *
      have m0 := md_int hs l0 hh hl0
      have m1 := md_int hs l1 hh hl1
      have lt0 := md_lt hs l0 hh
      have lt1 := md_lt hs l1 hh
      have q0 : po t (md hs l0) = po t hs := po_congr t (md_div hs l0 hh)
      have q1 : po t (md hs l1) = po t hs := po_congr t (md_div hs l1 hh)
      obtain ⟨rst, hfst⟩ := po_first (t := t) hs hok.n
      have hnd := po_nodup (t := t) hs hok.n
      have hple := po_le t hs
      have cP0 := fun W (s : Two w1 a T B .nil Mt.zero t f t k W) => path_any T B t hok (md hs l0) lt0 W s.rd.at'
      have cP1 := fun W (s : Two w1 a T B .nil Mt.zero t f t k W) => path_any T B t hok (md hs l1) lt1 W s.rd.at'
      rw [q0] at cP0
      rw [q1] at cP1
      have HPR := Lib.hid (fun base W v (hK : probe.Kept base W v (po t hs)) => path_row2 (h := hs) hok.n hK)
      rw [HTN.out] at hfst hple
      have HF0 := Lib.hid (show (po t hs)[0]?.getD 0 = hs / 128 % 8 from by rw [hfst]; rfl)
      have hpl1 : 1 ≤ (po t hs).length := by rw [hfst]; simp
      have HND := Lib.hid (show ∀ i j, i < (po t hs).length → j < i → (po t hs)[j]?.getD 0 ≠ (po t hs)[i]?.getD 0 from fun i j hi hji e => by
        have := List.pairwise_iff_getElem.1 (List.nodup_iff_pairwise_ne.1 hnd) j i (by omega) hi hji
        rw [List.getElem?_eq_getElem hi, List.getElem?_eq_getElem (show j < _ by omega)] at e
        exact this e)
      clear q0 q1 hfst hnd lt0 lt1
      have hx0 := keepc HO.out x03
      have hx1 := keepc HO.out x13
      have HS := Lib.hid (fun W (hb : Below w3.heap.size w3 W) => HS3.out.read hb)
      generalize md hs l0 = h0 at *
      generalize md hs l1 = h1' at *
      obtain ⟨pf, hpf⟩ : ∃ pf : Nat → Nat, pf = fun j => (po t hs)[j]?.getD 0 := ⟨_, rfl⟩
      have HPC := Lib.hid (show ∀ base W v, probe.Kept base W v (po t hs) → ∃ g c, v = .slice (some ⟨g, 0, none⟩) (po t hs).length c ∧ (po t hs).length ≤ c ∧ ∀ j, j < (po t hs).length → W.cell? ⟨g, j, none⟩ = some (.int .i64 (pf j : Nat)) from fun base W v hK => by
        rw [hpf]; exact HPR.out base W v hK)
      have hp0 : pf 0 = hs / 128 % 8 := by rw [hpf]; exact HF0.out
      have HND' := Lib.hid (show ∀ i j, i < (po t hs).length → j < i → pf j ≠ pf i from by rw [hpf]; exact HND.out)
      clear HPR HF0 HND hpf
      generalize (po t hs).length = pl at *
      go_upto_region 10 with (fail)
      have hxd : PD w3 pl pf ⟨none, none⟩ wr.drew := ⟨under.below_step HO.out (under.drew_below _), (fun g e => by cases e), (fun g e => by cases e)⟩
      have qx : ∀ q : moves.Un (PD w3 pl pf), q.W.cell? ⟨w.heap.size, 0, none⟩ = some (.int .u64 (l0 : Nat)) := fun q => keepc q.h.1 x03
      have qy : ∀ q : moves.Un (PD w3 pl pf), q.W.cell? ⟨w.heap.size, 1, none⟩ = some (.int .u64 (l1 : Nat)) := fun q => keepc q.h.1 x13
      haveI : Nonempty (moves.Un (PD w3 pl pf)) := ⟨⟨⟨none, none⟩, _, hxd⟩⟩
      refine (wpIn_wide (n := 3)).1 ?_
      refine moves.region (D := PD w3 pl pf) (PM pl) 16 [false, false, false, false, false, false, false, true, false, false, false, false, false, false, false, true] [] (by kernel_rfl) (by kernel_rfl) (by kernel_rfl) (fun k s _ => PM.some pl k s) (fun i j hij => by cases hij) ⟨none, none⟩ hxd ?_
      simp only [List.take_succ_cons, List.take_zero, List.drop_succ_cons, List.drop_zero]
      iterate 7
        refine moves.pure_step (fun _ _ _ => trivial) (fun K hK => ?_)
        go_simp
        refine hK _ ?_
        clear hK K
      refine moves.move_step (fun _ _ _ => trivial) (by kernel_rfl) (fun sd wd hd => ?_) ?_
      · go_simp
        refine callsIn_wide.2 ((cP0 wd (HS.out wd hd.1)).mono ?_)
        rintro e' w' ⟨v, rfl, hK, hb'⟩
        obtain ⟨g, c, rfl, hlc, hcells⟩ := HPC.out _ _ _ hK
        exact ⟨_, rfl, ⟨some g, sd.b⟩, ⟨g, c, hlc, rfl, rfl⟩, ⟨under.below_step hd.1 hb', fun g' e => by cases e; exact hcells, fun g' e j hj => keepc hb' (hd.2.2 g' e j hj)⟩⟩
      rintro _ _ ⟨ga, ca', hca, rfl, rfl⟩ K hK
      refine hK _ ?_
      clear hK K
      iterate 7
        refine moves.pure_step (fun _ _ _ => trivial) (fun K hK => ?_)
        go_simp
        refine hK _ ?_
        clear hK K
      refine moves.move_step (fun _ _ _ => trivial) (by kernel_rfl) (fun sd wd hd => ?_) ?_
      · go_simp
        refine callsIn_wide.2 ((cP1 wd (HS.out wd hd.1)).mono ?_)
        rintro e' w' ⟨v, rfl, hK, hb'⟩
        obtain ⟨g, c, rfl, hlc, hcells⟩ := HPC.out _ _ _ hK
        exact ⟨_, rfl, ⟨sd.a, some g⟩, ⟨g, c, hlc, rfl, rfl⟩, ⟨under.below_step hd.1 hb', fun g' e j hj => keepc hb' (hd.2.1 g' e j hj), fun g' e => by cases e; exact hcells⟩⟩
      rintro _ _ ⟨gb, cb', hcb, rfl, rfl⟩ K hK
      refine hK _ ?_
      clear hK K
      refine moves.nil_step ?_
      intro w5 hw5
      have hw5' : PD w3 pl pf ⟨some ga, some gb⟩ w5 := hw5
      clear hw5
      have ca5 := hw5'.2.1 ga rfl
      have cb5 := hw5'.2.2 gb rfl
      have hb5 := Lib.hid hw5'.1
      clear hw5' qx qy this hxd hx0 hx1 cP0 cP1 HPC HO
      gi_wp2
      have y0 := Under.cell (ca5 0 (by omega))
      rw [hp0] at y0
      have HC5 := Lib.hid (And.intro ca5 cb5)
      clear ca5 cb5 hp0
      have kSm := fun (q : Under w5) => (same_fn pf pl ga ca' gb cb' q.W (by omega) (fun j hj => Under.cell (HC5.out.1 j hj) q) (fun j hj => Under.cell (HC5.out.2 j hj) q))
      have kH1 := fun (q : Under w5) => split.h1_any hs q.W
      have d1 : decide ((pl : Int) < 1) = false := decide_eq_false (by omega)
      have hple' := Lib.hid hple
      clear hple
      go_upto_region 11 with (fail)
      obtain ⟨u, hu⟩ : ∃ u, hs / 128 % 8 = u := ⟨_, rfl⟩
      have e8 := cv_8 hs u hu
      have e7 := ne_8 hs u hu
      rw [hu] at y0
      clear hu
      refine wp_region_under (by kernel_rfl) (by kernel_rfl) ?_
      repeat (go_big_quiet_step (first
        | (go_at_call 10; (with_reducible refine under_same (kSm _)))
        | (go_at_call 18; (with_reducible refine under_same (kH1 _)))))
      refine wpQuiet_nil ?_
      intro wz hwz
      obtain ⟨z, rfl⟩ := hwz
      have HC6 := Lib.hid (show (∀ j, j < pl → z.W.cell? ⟨ga, j, none⟩ = some (.int .i64 (pf j : Nat))) ∧ Below w3.heap.size w3 z.W from ⟨fun j hj => keepc z.below (HC5.out.1 j hj), under.below_step hb5.out z.below⟩)
      clear kSm kH1 e8 y0 HC5 hb5 m0 m1
      generalize z.W = w6 at *
      go_wp2_with (fail)
      go_loopw [75] (fun i wr => ∃ i' : Nat, i' ≤ pl ∧ i = .int .i64 i' ∧ Hid ((∀ j, j < pl → wr.cell? ⟨ga, j, none⟩ = some (.int .i64 (pf j : Nat))) ∧ Below w3.heap.size w3 wr)) (fun i _ => pl - (intOf i).toNat)
      case atStart => exact ⟨0, by omega, rfl, HC6⟩
      case round =>
        obtain ⟨i, hi, rfl, HC7⟩ := hrel
        clear HC6
        rcases Nat.lt_or_ge i pl with hil | hil
        · have hii : (i : Int) < (pl : Int) := by omega
          have hp8 := hple'.out
          have hic : (i : Int) ≤ (ca' : Int) := by omega
          have hcell := HC7.out.1 i hil
          have cH := fun c' => has_no pf i ga c' (pf i) wr (by have := hple'.out; omega) (fun j hj => HC7.out.1 j (by omega)) (fun j hj => HND'.out i j hil hj)
          generalize pf i = x at *
          go_wp2_with (go_at_call 19; (with_reducible refine (cH _).mono ?_); rintro e w7 ⟨rfl, rfl⟩)
          go_roundw
          case rel =>
            refine ⟨_, _, _, _, _, _, _, _, _, _, _, _, _, _, ⟨i + 1, by omega, ?_, HC7⟩, rfl⟩
            simp
          case measure => simp [intOf]; omega
        · obtain rfl : i = pl := by omega
          go_wp2
          go_roundw
          case rel => exact ⟨j + 1, by omega, by simp, Lib.hid HC7.out.2⟩
          case measure => simp [intOf]; omega
    · obtain rfl : j = la := by omega
      have hS := HS3.out.read HO.out
      have cL := fun W (s : Two w1 a T B .nil Mt.zero t f t k W) => look_sound s.rd
      have cC := fun W (s : Two w1 a T B .nil Mt.zero t f t k W) => check_any s.rd HR.out.1
      have cT := fun W (s : Two w1 a T B .nil Mt.zero t f t k W) => text_tab T B t hok W s.rd.at'
      rw [HTN.out] at cT
      have htl := texts_length t 8
      have cSm := fun o1 c1 W (h1 : TextsAt o1 (texts t 8) W) (h2 : TextsAt o (texts t 8) W) => same_texts o1 o c1 c (texts t 8) (by rw [htl]; decide) W h1 h2
      rw [htl] at cSm
      have HS := Lib.hid (And.intro hS HO.out)
      have HTL := Lib.hid htl
      clear hS htl
      go_wp2_with (first
        | (go_at_call 9; (with_reducible refine (cL _ HS.out.1).mono ?_); rintro e w5 ⟨rfl, hb5⟩; have HS5 := Lib.hid (And.intro (HS.out.1.read hb5) (under.below_step HS.out.2 hb5)); clear HS)
        | (go_at_call 9; (with_reducible refine (cL _ HS5.out.1).mono ?_); rintro e w6 ⟨rfl, hb6⟩; have HS6 := Lib.hid (And.intro (HS5.out.1.read hb6) (under.below_step HS5.out.2 hb6)); clear HS5)
        | (go_at_call 14; (with_reducible refine (cC _ HS6.out.1).mono ?_); rintro e w7 ⟨rfl, hb7⟩; have HS7 := Lib.hid (And.intro (HS6.out.1.read hb7) (under.below_step HS6.out.2 hb7)); clear HS6)
        | (go_at_call 17; (with_reducible refine (cT _ HS7.out.1).mono ?_); rintro e w8 ⟨v, rfl, hK8, hb8⟩; have HS8 := Lib.hid (And.intro (HS7.out.1.read hb8) (under.below_step HS7.out.2 hb8)); obtain ⟨o8, c8, rfl, hx8⟩ := hK8.texts; rw [HTL.out] at *; have HX8 := Lib.hid (And.intro hx8 (HTx.out.read HS8.out.2)); clear hx8 hK8)
        | (go_at_call 20; (with_reducible refine (cSm _ _ _ HX8.out.1 HX8.out.2).mono ?_); rintro e w9 ⟨rfl, rfl⟩))
      go_ret
      exact ⟨rfl, under.below_step HBW.out HS8.out.1.bel⟩
theorem paths_law (a : String → Addr) (l0 l1 : Nat) (hl0 : l0 < 18446744073709551616) (hl1 : l1 < 18446744073709551616) (s1 s2 : Option Addr) (la ca lb cb : Nat) (hz : Nat → Nat) (az : Nat → Ac) (w : World) (hw : Bs a w) (hH : HashAt s1 la w hz) (hA : ActAt s2 lb w az) :
    Calls Tryz.prog 5 #[.slice s1 la ca, .slice s2 lb cb, .agg #[.int .u64 (l0 : Nat), .int .u64 (l1 : Nat)]] w fun e w' => e = .returned (.bool true) ∧ Below w.heap.size w w' := by
  by_cases hc : noMade 8 la lb
  · exact paths_no a l0 l1 s1 s2 la ca lb cb hc w hw
  · unfold noMade at hc
    exact paths_few a l0 l1 hl0 hl1 s1 s2 la ca lb cb hz az (by omega) (by omega) (by omega) w hw hH hA
end Go.Proofs.YtpllkopllhldcaaGreatDoor.sound
