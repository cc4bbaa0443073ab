/- SoundStays: the walk. -/
import Derived.Test.YtpllkopllhldcaaGreatDoorSoundC
import Derived.LoopTactic
namespace Go.Proofs.YtpllkopllhldcaaGreatDoor.sound
open Go.ChangeShapes Go.WideShapes Go.ChangeAt Go.RowKit Go.Shelf swar under trap meter group probe lens tail call table
attribute [local go_sem] Oper.semAt_some stage.pureUpon move.stepUpon
set_option linter.unusedSimpArgs false
set_option linter.unusedVariables false

theorem szRef : (Tryz.prog.info? 79).map (·.size) = some 2 := by kernel_rfl
theorem ptr_ref (x : Addr) (w : World) : (Op.equalIn 10000 26 (.pointer (some x)) (.pointer none)).run Tryz.prog w = .ok false w := by
  obtain ⟨j, hj, _⟩ := Option.map_eq_some_iff.1 szRef
  have h : ∀ d : Nat, (Op.equalIn (d + 1) 26 (.pointer (some x)) (.pointer none)).run Tryz.prog w = .ok false w := fun d => by
    simp [Op.equalIn, run_underlying Tryz.underlying26, sizeOf, typeInfo, hj, sameAddr]
  exact h 9999
theorem ShBox.of (w : World) (a b c d e f : Nat) : ShBox w.heap.size a b c d e f (w.alloc (.cells #[.int .i64 (a : Nat), .int .i64 (b : Nat), .int .i64 (c : Nat), .int .i64 (d : Nat), .int .i64 (e : Nat), .int .i64 (f : Nat)] 32)) := ⟨World.alloc_heap_new w _⟩
theorem path_row {base : Nat} {W : World} {v : Value} {t : Tb} {h : Nat} (hn : okN t.n) (hK : probe.Kept base W v (po t h)) : ∃ g c, v = .slice (some ⟨g, 0, none⟩) (po t h).length c ∧ 1 ≤ (po t h).length ∧ (po t h).length ≤ t.n ∧ g < W.heap.size ∧ ∀ j (hj : j < (po t h).length), W.cell? ⟨g, j, none⟩ = some (.int .i64 ((po t h)[j] : Nat)) := by
  obtain ⟨g, c, h1, h2, _, h4⟩ := hK.cells (po_ne h hn)
  refine ⟨g, c, h1, List.length_pos_iff.2 (po_ne h hn), po_le t h, h2, fun j hj => ?_⟩
  rw [h4 j hj]
  simp [probe.enc, hj]
theorem stays_no (a : String → Addr) (g : Int) (s1 s2 : Option Addr) (la ca lb cb : Nat) (hc : noMade g la lb) (w : World) (hw : Bs a w) :
    Calls Tryz.prog 4 #[.int .i64 g, .slice s1 la ca, .slice s2 lb cb] w fun e w' => e = .returned (.bool true) ∧ Below w.heap.size w w' := by
  have hA := alive_any a w hw
  have cM := fun W (hb : Below w.heap.size w W) => made_no a g s1 s2 la ca lb cb hc W (hw.below hb)
  have hpn := ptr_none
  clear hw hc
  go_enter Tryz.func4, Tryz.ntmps4
  go_wp2_with (first
    | (go_at_call 6; refine hA.mono ?_; rintro e w1 ⟨rfl, hb1⟩)
    | (go_at_call 7; refine (cM _ hb1).mono ?_; rintro e w2 ⟨rfl, hb2⟩))
  go_ret
  exact ⟨rfl, under.below_step hb1 hb2⟩
set_option maxRecDepth 100000 in
set_option maxHeartbeats 8000000 in
theorem stays_few (a : String → Addr) (n : Nat) (hn : okN n) (h16 : n ≤ 16) (s1 s2 : Option Addr) (la ca lb cb : Nat) (hz : Nat → Nat) (az : Nat → Ac) (h1 : 1 ≤ la) (h2 : la ≤ 100) (h3 : lb ≤ 120) (w : World) (hw : Bs a w) (hH : HashAt s1 la w hz) (hA : ActAt s2 lb w az) :
    Calls Tryz.prog 4 #[.int .i64 n, .slice s1 la ca, .slice s2 lb cb] w fun e w' => e = .returned (.bool true) ∧ Below w.heap.size w w' := by
  have hAl := alive_any a w hw
  have cM := fun W (hb : Below w.heap.size w W) => made_few a n hn h16 s1 s2 la ca lb cb hz az h1 h2 h3 W (hw.below hb) (hH.below hb) (hA.below hb)
  have hpt := ptr_tab
  have hpr := ptr_ref
  have HH := Lib.hid hH
  clear hw hH hA
  go_enter Tryz.func4, Tryz.ntmps4
  go_wp2_with (first
    | (go_at_call 6; refine hAl.mono ?_; rintro e w1 ⟨rfl, hb1⟩)
    | (go_at_call 7; refine (cM _ hb1).mono ?_; rintro e w2 ⟨T, B, f, rfl, t, k, M, hk, rfl, hRep, hS⟩; have cL := look_sound hS.rd)
    | (go_at_call 9; refine cL.mono ?_; rintro e w3 ⟨rfl, hb3⟩))
  have hok := hRep.1.ok
  have hkd := kinds t hok
  have hlg := longest_le t (ents t t.n)
  have hsg := lks_sum_ge t hok.n (ents t t.n)
  have hsl := lks_sum_le t (ents t t.n)
  have hocp := oc_pos hok
  have hocl := oc_le t t.n
  rw [ents_length] at hsg hsl
  have hlen := hok.len
  have htmb := hok.tombs
  have hS3 := hS.read hb3
  have hc8 := cntT_le 3 t
  have hnz : oc t t.n ≠ 0 := by omega
  have hb4 := new_block w3 (.cells #[.int .i64 (cntT 3 t : Nat), .int .i64 (cntT 2 t : Nat), .int .i64 (cntT 1 t : Nat), .int .i64 (oc t t.n : Nat), .int .i64 (mx (lks t (ents t t.n)) : Nat), .int .i64 ((lks t (ents t t.n)).sum : Nat)] 32)
  have hBx := ShBox.of w3 (cntT 3 t) (cntT 2 t) (cntT 1 t) (oc t t.n) (mx (lks t (ents t t.n))) (lks t (ents t t.n)).sum
  have hS4 := hS3.read hb4
  generalize w3.alloc (.cells #[.int .i64 (cntT 3 t : Nat), .int .i64 (cntT 2 t : Nat), .int .i64 (cntT 1 t : Nat), .int .i64 (oc t t.n : Nat), .int .i64 (mx (lks t (ents t t.n)) : Nat), .int .i64 ((lks t (ents t t.n)).sum : Nat)] 32) = w4 at *
  generalize w3.heap.size = S at *
  have cCk := fun W (hb : Below w4.heap.size w4 W) => check_any (hS4.read hb).rd hRep.1
  have cLe := fun W (hb : Below w4.heap.size w4 W) => (show Calls Tryz.prog 15 #[.pointer (some ⟨T, 0, none⟩)] W fun e w' => e = .returned (.int .i64 (cntT 3 t : Nat)) ∧ W = w' from by rw [← hlen]; exact len_any T B t W (hS4.read hb).rd.at')
  have cTo := fun W (hb : Below w4.heap.size w4 W) => (show Calls Tryz.prog 16 #[.pointer (some ⟨T, 0, none⟩)] W fun e w' => e = .returned (.int .i64 (cntT 2 t : Nat)) ∧ W = w' from by rw [← htmb]; exact tombs_any T B t W (hS4.read hb).rd.at')
  have cPa := fun W (s : Two w1 a T B .nil Mt.zero t f t k W) j (hj : hz j < 18446744073709551616) => path_any T B t hok (hz j) hj W s.rd.at'
  have HHw := Lib.hid hb1
  have HR := Lib.hid hRep
  have hmul : t.n * cntT 3 t ≤ 16384 := Nat.le_trans (Nat.mul_le_mul (show t.n ≤ 64 by omega) (show cntT 3 t ≤ 256 by omega)) (by decide)
  have hcast : ((t.n : Int)) * ((cntT 3 t : Nat) : Int) = ((t.n * cntT 3 t : Nat) : Int) := by push_cast; rfl
  clear hlen htmb hRep hS cL hb1 cM hAl hk
  generalize cntT 3 t = c3 at *
  generalize cntT 2 t = c2 at *
  generalize cntT 1 t = c1 at *
  generalize oc t t.n = c0 at *
  generalize mx (lks t (ents t t.n)) = lg at *
  generalize (lks t (ents t t.n)).sum = sm at *
  have e1 : IntKind.i64.wrap ((c3 : Int) + (c2 : Int)) = (c3 : Int) + (c2 : Int) := IntWalk.i64_in _ (by omega)
  have e2 : IntKind.i64.wrap ((c3 : Int) + (c2 : Int) + (c1 : Int)) = 8 * (t.n : Int) := by rw [IntWalk.i64_in _ (by omega)]; omega
  have e3 : IntKind.i64.wrap (8 * (t.n : Int)) = 8 * (t.n : Int) := IntWalk.i64_in _ (by omega)
  have e4 : IntKind.i64.wrap ((t.n : Int) * (c3 : Int)) = (t.n : Int) * (c3 : Int) := IntWalk.i64_in _ (by rw [hcast]; omega)
  have d1 : decide (t.n < lg) = false := decide_eq_false (by omega)
  have d2 : decide (sm < c3) = false := decide_eq_false (by omega)
  have d4 : decide (t.n * c3 < sm) = false := decide_eq_false (by omega)
  have d3 : decide ((t.n : Int) * (c3 : Int) < (sm : Int)) = false := decide_eq_false (by rw [hcast]; omega)
  have d5 : ((c0 : Int) == 0) = false := beq_eq_false_iff_ne.2 (by omega)
  have kCk := fun (q : Under w4) => cCk q.W q.below
  have kLe := fun (q : Under w4) => cLe q.W q.below
  have kTo := fun (q : Under w4) => cTo q.W q.below
  have y0 := Under.cell hBx.c0
  have y1 := Under.cell hBx.c1
  have y2 := Under.cell hBx.c2
  have y4 := Under.cell hBx.c4
  have y5 := Under.cell hBx.c5
  have HBx := Lib.hid (And.intro hS4 hBx)
  have hn16 := Lib.hid h16
  clear hS3 hS4 hBx hb4 cCk cLe cTo hkd hlg hsg hsl hocp hocl hc8 hmul hcast hnz hb3
  as_aux_lemma =>
    refine wp_region_under (by kernel_rfl) (by kernel_rfl) ?_
    repeat (go_big_quiet_step (first
      | (go_at_call 15; (with_reducible refine under_same (kLe _)))
      | (go_at_call 16; (with_reducible refine under_same (kTo _)))
      | (go_at_call 14; (with_reducible refine under_call (kCk _)))))
    refine wpQuiet_nil ?_
    intro wz hwz
    obtain ⟨z, rfl⟩ := hwz
    have HI := Lib.hid (show Two w1 a T B .nil Mt.zero t f t k z.W ∧ ShBox S c3 c2 c1 c0 lg sm z.W from ⟨HBx.out.1.read z.below, HBx.out.2.keep z.below⟩)
    have HPa := Lib.hid cPa
    clear kCk kLe kTo y0 y1 y2 y4 y5 cPa e1 e2 e3 e4 d1 d2 d3 d4 HBx
    generalize z.W = w5 at *
    go_wp2_with (fail)
    go_loopw [84] (fun i wr => ∃ j : Nat, j ≤ la ∧ i = .int .i64 j ∧ Hid (Two w1 a T B .nil Mt.zero t f t k wr ∧ ShBox S c3 c2 c1 c0 lg sm wr)) (fun i _ => la - (intOf i).toNat)
    case atStart => exact ⟨0, by omega, rfl, HI⟩
    case round =>
      obtain ⟨j, hj, rfl, HO⟩ := hrel
      clear HI
      rcases Nat.lt_or_ge j la with hjl | hjl
      · have hji : (j : Int) < (la : Int) := by omega
        obtain ⟨y, rfl, hh, hcy⟩ := HH.out j hjl
        have hc := hcy _ (under.below_step HHw.out HO.out.1.bel)
        have cP := HPa.out wr HO.out.1 j hh
        have HP := Lib.hid (fun W' v (hK : probe.Kept wr.heap.size W' v (po t (hz j))) => path_row hok.n hK)
        generalize hz j = hs at *
        go_wp2_with (go_at_call 11; refine cP.mono ?_; rintro e w6 ⟨v, rfl, hK, hb6⟩; obtain ⟨g, c, rfl, hl1, hl2, hrest⟩ := HP.out _ _ hK; clear hK hrest HP; have HO6 := Lib.hid (show Two w1 a T B .nil Mt.zero t f t k w6 ∧ ShBox S c3 c2 c1 c0 lg sm w6 from ⟨HO.out.1.read hb6, HO.out.2.keep hb6⟩); have y3 := HO6.out.2.c3; have d1 : decide (((po t hs).length : Int) < 1) = false := decide_eq_false (by omega); have d0 : decide ((po t hs).length < 1) = false := decide_eq_false (by omega); have d2 : decide (t.n < (po t hs).length) = false := decide_eq_false (by omega); clear hl1 hl2 hb6; generalize (po t hs).length = pl at *)
        go_roundw
        case rel => exact ⟨j + 1, by omega, by simp, HO6⟩
        case measure => simp [intOf]; omega
      · obtain rfl : j = la := by omega
        go_wp2
        go_ret
        exact ⟨rfl, under.below_step HHw.out HO.out.1.bel⟩
theorem stays_law (a : String → Addr) (g : Int) (s1 s2 : Option Addr) (la ca lb cb : Nat) (hz : Nat → Nat) (az : Nat → Ac) (w : World) (hw : Bs a w) (hH : HashAt s1 la w hz) (hA : ActAt s2 lb w az) :
    Calls Tryz.prog 4 #[.int .i64 g, .slice s1 la ca, .slice s2 lb cb] w fun e w' => e = .returned (.bool true) ∧ Below w.heap.size w w' := by
  by_cases hc : noMade g la lb
  · exact stays_no a g s1 s2 la ca lb cb hc w hw
  · unfold noMade at hc
    by_cases hg : ∃ k : Nat, g = k ∧ okN k
    · obtain ⟨n, rfl, hn⟩ := hg
      exact stays_few a n hn (by omega) s1 s2 la ca lb cb hz az (by omega) (by omega) (by omega) w hw hH hA
    · exact absurd (.inr (.inr (.inr (.inr hg)))) hc
end Go.Proofs.YtpllkopllhldcaaGreatDoor.sound
