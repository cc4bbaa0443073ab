/- dual: prepare, Step. -/
import Derived.Test.YteedbnoefnlidaaGreatDoorDualBegin
import Derived.LoopTactic
namespace Go.Proofs.YteedbnoefnlidaaGreatDoor.dual
open Go.ChangeShapes Go.WideShapes Go.ChangeAt Go.RowKit Go.Shelf swar under trap meter group probe lens tail call table evac
attribute [local go_sem] Oper.semAt_some stage.pureUpon move.stepUpon
set_option linter.unusedSimpArgs false
set_option linter.unusedVariables false

theorem kk1 (n1 p : Nat) : kk n1 p 1 = min p n1 := by unfold kk; simp
theorem kk2 (n1 p : Nat) : kk n1 p 2 = min (p - n1) n1 := by unfold kk; simp
section
variable {a : String → Addr} {w0 w : World} {Y : Lay} {D : Nat} {Q : Nat → Nat} {n1 d : Nat} {dp : Int} {GB cB GT cT p dn : Nat} {t : Nat → Tb} {W W' : World} {Bm : Nat} {m m' : Mt}
/-- the build of a table -/
theorem Pre.bd (h : Pre a w0 Y D Q n1 d dp GB cB GT cT p dn t W) (hm : MAt Bm 0 m W) (hok : m.Ok) (hB : Bm ∉ fpP Y D Q GB GT) {j : Nat} (h1 : 1 ≤ j) (hj : j < Y.N) : build.Bd (Q j) (Y.T j) (Y.B j) n1 (kk n1 p j) (some ⟨Y.T j, 0, none⟩) Bm 0 m W := by
  have nQ := h.pl.nQ j h1 hj
  have tT := h.pl.tin hj
  have nB : ∀ b ∈ Y.tall, Bm ≠ b := fun b hb e => hB (by subst e; simp only [fpP, List.mem_cons]; exact .inr (.inr (.inr (.inr (.inr hb)))))
  exact ⟨h.bx j h1 hj, h.tb j h1 hj, hm, hok, fun e => nQ (e ▸ tT.1), fun e => nQ (e ▸ tT.2), fun e => hB (e ▸ fpP_q h.pl.N h1 hj), nB _ tT.1, nB _ tT.2⟩
/-- one more group is prepared -/
theorem Pre.next (h : Pre a w0 Y D Q n1 d dp GB cB GT cT p dn t W) {j : Nat} (hj : j + 1 < Y.N) (h1 : j * n1 ≤ p) (h2 : p < j * n1 + n1) (hB : Bm ∉ fpP Y D Q GB GT) (hB0 : w0.heap.size ≤ Bm) (hb : build.Bd (Q (j + 1)) (Y.T (j + 1)) (Y.B (j + 1)) n1 (kk n1 p (j + 1) + 1) (some ⟨Y.T (j + 1), 0, none⟩) Bm 0 m' W') (hp : Past [Q (j + 1), Y.T (j + 1), Y.B (j + 1), Bm] W W') : Pre a w0 Y D Q n1 d dp GB cB GT cT (p + 1) dn t W' := by
  have q1 : 1 ≤ j + 1 := by omega
  have nQ := h.pl.nQ _ q1 hj
  have nD := h.pl.qD _ q1 hj
  have tT := h.pl.tin hj
  have mB : ∀ b, b ∈ fpP Y D Q GB GT → b ≠ Bm := fun b hb e => hB (e ▸ hb)
  have iT : ∀ b ∈ Y.tall, b ∈ fpP Y D Q GB GT := fun b hb => by simp only [fpP, List.mem_cons]; exact .inr (.inr (.inr (.inr (.inr hb))))
  have no : ∀ b, b ∈ fpP Y D Q GB GT → b ∉ Y.tall → b ≠ Q (j + 1) → b ∉ [Q (j + 1), Y.T (j + 1), Y.B (j + 1), Bm] := fun b hb ht hq e => by
    simp only [List.mem_cons, List.not_mem_nil, or_false] at e
    rcases e with e | e | e | e
    · exact hq e
    · exact ht (e ▸ tT.1)
    · exact ht (e ▸ tT.2)
    · exact mB b hb e
  have nt : ∀ i, i < Y.N → i ≠ j + 1 → ∀ b ∈ [Y.T i, Y.B i], b ∉ [Q (j + 1), Y.T (j + 1), Y.B (j + 1), Bm] := fun i hi hne b hb e => by
    have hs := h.pl.sep i (j + 1) hi hj hne b hb
    have ht : b ∈ Y.tall := Lay.tin hi hb
    simp only [List.mem_cons, List.not_mem_nil, or_false, not_or] at e hs
    rcases e with e | e | e | e
    · exact nQ (e ▸ ht)
    · exact hs.1 e
    · exact hs.2 e
    · exact mB b (iT b ht) e
  have ek : ∀ i, 1 ≤ i → i < Y.N → i ≠ j + 1 → kk n1 (p + 1) i = kk n1 p i := fun i h3 h4 h5 => by
    have hN := h.pl.N
    obtain rfl | rfl : j = 0 ∨ j = 1 := by omega
    · obtain rfl : i = 2 := by omega
      rw [kk2, kk2]; omega
    · obtain rfl : i = 1 := by omega
      rw [kk1, kk1]; omega
  have ej : kk n1 (p + 1) (j + 1) = kk n1 p (j + 1) + 1 := by
    have hN := h.pl.N
    obtain rfl | rfl : j = 0 ∨ j = 1 := by omega
    · rw [kk1, kk1]; omega
    · rw [kk2, kk2]; omega
  refine ⟨h.pl, h.row.past hp (no D (by simp [fpP]) h.pl.nD nD.symm), fun i h3 h4 => hp.cell (h.gb i h3 h4) (no GB (by simp [fpP]) h.nGB.1 (h.nGB.2.2 _ q1 hj).symm), hp.cell h.gt (no GT (by simp [fpP]) h.nGT.1 (h.nGT.2.2 _ q1 hj).symm), ?_, fun i h3 h4 => ?_, fun i h3 h4 => ?_, h.nGB, h.nGT, h.tn, h.c1⟩
  · have hd : ∀ b ∈ [Q (j + 1), Y.T (j + 1), Y.B (j + 1), Bm], w0.heap.size ≤ b := fun b hb => by
      simp only [List.mem_cons, List.not_mem_nil, or_false] at hb
      rcases hb with rfl | rfl | rfl | rfl
      · exact h.pl.hQ _ q1 hj
      · exact h.pl.ht _ tT.1
      · exact h.pl.ht _ tT.2
      · exact hB0
    refine h.re.past hp fun b hb => ⟨hd b hb, fun e => ?_⟩
    rcases cut_off e with rfl | rfl
    · exact nt 0 (by have := h.pl.N; omega) (by omega) (Y.T 0) (by simp) hb
    · exact nt 0 (by have := h.pl.N; omega) (by omega) (Y.B 0) (by simp) hb
  · by_cases e : i = j + 1
    · subst e; rw [ej]; exact hb.bx
    · rw [ek i h3 h4 e]
      exact (h.bx i h3 h4).past hp (no (Q i) (fpP_q h.pl.N h3 h4) (h.pl.nQ i h3 h4) (h.pl.qq i _ h3 h4 q1 hj e))
  · by_cases e : i = j + 1
    · subst e; rw [ej]; exact hb.tb
    · rw [ek i h3 h4 e]
      exact (h.tb i h3 h4).past hp (nt i h4 e _ (by simp)) (nt i h4 e _ (by simp))
theorem Pre.lts (h : Pre a w0 Y D Q n1 d dp GB cB GT cT p dn t W) : ∀ b ∈ fpP Y D Q GB GT, b < W.heap.size := fun b hb => by
  have hN := h.pl.N
  simp only [fpP, List.mem_cons] at hb
  rcases hb with rfl | rfl | rfl | rfl | rfl | hb
  · exact World.block_lt_of_cell? _ _ (h.gb 1 (Nat.le_refl _) (by omega))
  · exact World.block_lt_of_cell? _ _ h.gt
  · exact h.row.lt
  · exact (h.bx 1 (Nat.le_refl _) (by omega)).lt
  · exact (h.bx (Y.N - 1) (by omega) (by omega)).lt
  · obtain ⟨i, hi, hb⟩ := List.mem_flatMap.1 hb
    have hi := List.mem_range.1 hi
    rcases Nat.eq_zero_or_pos i with rfl | h0
    · have := h.re.at' 0 Nat.one_pos
      have hb' : b = Y.T 0 ∨ b = Y.B 0 := by simpa using hb
      rcases hb' with rfl | rfl
      · exact this.lt
      · exact this.lb
    · have := h.tb i h0 hi
      have hb' : b = Y.T i ∨ b = Y.B i := by simpa using hb
      rcases hb' with rfl | rfl
      · exact this.lt
      · exact this.lb
theorem kk_all (hN : Y.N = 2 ∨ Y.N = 3) {j : Nat} (h1 : 1 ≤ j) (hj : j < Y.N) : kk n1 ((Y.N - 1) * n1) j = n1 := by
  rcases hN with hN | hN
  · obtain rfl : j = 1 := by omega
    rw [hN, kk1]; simp
  · obtain rfl | rfl : j = 1 ∨ j = 2 := by omega
    · rw [hN, kk1]; simp; omega
    · rw [hN, kk2]; simp; omega
/-- all groups are prepared -/
theorem Pre.bgn (h : Pre a w0 Y D Q n1 d dp GB cB GT cT ((Y.N - 1) * n1) dn t W) : Bgn a w0 W Y D Q n1 d dp GB cB GT 1 dn t 0 0 (.slice none 0 0) (.slice none 0 0) W := by
  have hl := h.lts
  have hN := h.pl.N
  have hr := h.row
  rw [h.c1] at hr
  refine ⟨h.pl, hr, h.gb, h.gt, h.re, fun j h1 hj => ?_, fun j h1 hj => ?_, World.ownsRow_nil _ _ _ _, h.nGB, h.nGT, h.tn, h.re.bel.size, hl D (by simp [fpP]), hl GB (by simp [fpP]), hl GT (by simp [fpP]), fun j h1 hj => hl _ (fpP_q hN h1 hj), fun b hb => hl b (by simp only [fpP, List.mem_cons]; exact .inr (.inr (.inr (.inr (.inr hb))))), Past.refl _ _⟩
  · have := h.bx j h1 hj
    rw [kk_all hN h1 hj] at this
    rw [if_neg (by omega)]; exact this
  · have := h.tb j h1 hj
    rwa [kk_all hN h1 hj] at this
end
/-- the blocks that a Step of a dual writes, while the new tables are prepared -/
abbrev wrP (Y : Lay) (D : Nat) (Q : Nat → Nat) (Bm : Nat) : List Nat := Bm :: D :: Q 1 :: Q (Y.N - 1) :: Y.tall
theorem wrP_j {Y : Lay} {D : Nat} {Q : Nat → Nat} {Bm j : Nat} (hN : Y.N = 2 ∨ Y.N = 3) (hj : j + 1 < Y.N) : ∀ b ∈ [Q (j + 1), Y.T (j + 1), Y.B (j + 1), Bm], b ∈ wrP Y D Q Bm := fun b hb => by
  have tT : Y.T (j + 1) ∈ Y.tall := Lay.tin hj (by simp)
  have tB : Y.B (j + 1) ∈ Y.tall := Lay.tin hj (by simp)
  simp only [List.mem_cons, List.not_mem_nil, or_false] at hb
  rcases hb with rfl | rfl | rfl | rfl
  · obtain e | e : j + 1 = 1 ∨ j + 1 = Y.N - 1 := by omega
    · rw [e]; simp [wrP]
    · rw [e]; simp [wrP]
  · simp only [wrP, List.mem_cons]; exact .inr (.inr (.inr (.inr tT)))
  · simp only [wrP, List.mem_cons]; exact .inr (.inr (.inr (.inr tB)))
  · simp [wrP]
set_option maxRecDepth 20000 in
set_option maxHeartbeats 2000000 in
theorem prepare_any (a : String → Addr) (w0 w : World) (Y : Lay) (D : Nat) (Q : Nat → Nat) (n1 d : Nat) (dp : Int) (GB cB GT cT p dn Bm : Nat) (m : Mt) (t : Nat → Tb) (nb : Nat) (hnb : Y.N = nb + 1) (hp : p < (Y.N - 1) * n1) (hP : Pre a w0 Y D Q n1 d dp GB cB GT cT p dn t w) (hm : MAt Bm 0 m w) (hok : m.Ok) (hu : m.unitE 1 = 0) (hB0 : w0.heap.size ≤ Bm) (hB : Bm ∉ fpP Y D Q GB GT) :
    Calls Tryz.prog 72 #[.pointer (some ⟨D, 0, none⟩), .pointer (some ⟨Bm, 0, none⟩)] w fun e w' => e = .returned (.tuple #[]) ∧ MAt Bm 0 ((m.unit 1).visits 1) w' ∧ Past (wrP Y D Q Bm) w w' ∧
      ((p + 1 < (Y.N - 1) * n1 ∧ Pre a w0 Y D Q n1 d dp GB cB GT cT (p + 1) dn t w') ∨ (p + 1 = (Y.N - 1) * n1 ∧ ∃ V GT' cT' GU cU, Mov a w0 Y D Q n1 d dp GT' cT' GU cU V 0 dn false t w' ∧ w.heap.size ≤ V ∧ w.heap.size ≤ GT' ∧ w.heap.size ≤ GU)) := by
  have hN := hP.pl.N
  have hn64 := okN_le hP.pl.o1
  have hn1 := okN_pos hP.pl.o1
  have h3 : w.cell? ⟨D, 3, none⟩ = some (.slice (some ⟨GB, 0, none⟩) nb cB) := by have := hP.row.c3; rwa [hnb] at this
  have HI := Lib.hid (show Pre a w0 Y D Q n1 d dp GB cB GT cT p dn t w ∧ MAt Bm 0 m w ∧ Past (wrP Y D Q Bm) w w from ⟨hP, hm, Past.refl _ _⟩)
  clear hP hm
  go_enter Tryz.func72, Tryz.ntmps72
  go_wp2_with (fail)
  go_loopw [11] (fun i wr => ∃ j : Nat, j ≤ nb ∧ i = .int .i64 j ∧ Hid (j * n1 ≤ p ∧ Pre a w0 Y D Q n1 d dp GB cB GT cT p dn t wr ∧ MAt Bm 0 m wr ∧ Past (wrP Y D Q Bm) w wr)) (fun i _ => nb - (intOf i).toNat)
  case atStart => exact ⟨0, by omega, rfl, Lib.hid ⟨by omega, HI.out⟩⟩
  case round =>
    obtain ⟨j, hj, rfl, HR⟩ := hrel
    clear HI
    rcases Nat.lt_or_ge j nb with hjl | hjl
    · have hji : (j : Int) < (nb : Int) := by omega
      have hjN : j + 1 < Y.N := by omega
      obtain ⟨hjp, hPr, hmr, hpr⟩ := HR.out
      have hc : wr.cell? ⟨GB, j, none⟩ = some (.pointer (some ⟨Q (j + 1), 0, none⟩)) := hPr.gb (j + 1) (by omega) (by omega)
      have hadd : (⟨GB, 0, none⟩ : Addr).add j = ⟨GB, j, none⟩ := by rw [add_at, Nat.zero_add]
      have hbd := hPr.bd hmr hok hB (show 1 ≤ j + 1 by omega) hjN
      by_cases hlt : p < j * n1 + n1
      · have hk : kk n1 p (j + 1) < n1 := by
          unfold kk; rw [show j + 1 - 1 = j by omega]; omega
        have cS := build.step_on a (Q (j + 1)) (Y.T (j + 1)) (Y.B (j + 1)) n1 (kk n1 p (j + 1)) Bm 0 m hk hn64 hu wr hbd (keepc (hPr.re.bel.mono (Nat.le_refl _)) hPr.re.base.limit)
        have HN := Lib.hid (fun (W' : World) hb hp' => hPr.next (m' := (m.unit 1).visits 1) (W' := W') hjN hjp hlt hB hB0 hb hp')
        have HPR := Lib.hid hpr
        clear HR hPr hmr hpr hbd
        go_wp2_with (go_at_call 111; refine cS.mono ?_; rintro e w2 ⟨rfl, hb2, hp2⟩)
        have hP2 := HN.out _ hb2 hp2
        have hp3 := HPR.out.trans (hp2.mono (wrP_j hN hjN))
        have hz := HPR.out.size
        have hm2 := hb2.mt
        clear HN cS hb2 HPR hc hadd
        have h3' : w2.cell? ⟨D, 3, none⟩ = some (.slice (some ⟨GB, 0, none⟩) nb cB) := by have := hP2.row.c3; rwa [hnb] at this
        have h3u := Under.cell h3'
        have hgl : w2.cell? ⟨GB, nb - 1, none⟩ = some (.pointer (some ⟨Q nb, 0, none⟩)) := hP2.gb nb (by omega) (by omega)
        have hglu := Under.cell hgl
        have cL := fun (y : Under w2) => build.left_any (Q nb) n1 (kk n1 (p + 1) nb) (some ⟨Y.T nb, 0, none⟩) (by unfold kk; omega) hn64 y.W ((hP2.bx nb (by omega) (by omega)).keep y.below)
        have HX := Lib.hid (show Pre a w0 Y D Q n1 d dp GB cB GT cT (p + 1) dn t w2 ∧ MAt Bm 0 ((m.unit 1).visits 1) w2 ∧ Past (wrP Y D Q Bm) w w2 from ⟨hP2, hm2, hp3⟩)
        have hz2 := hp2.size
        clear hP2 hm2 hp3 hp2 h3' hgl
        by_cases hall : p + 1 = (Y.N - 1) * n1
        · have ek : n1 - kk n1 (p + 1) nb = 0 := by rw [hall, kk_all hN (by omega) (by omega)]; omega
          rw [ek] at cL
          obtain rfl | rfl : nb = 1 ∨ nb = 2 := by omega
          all_goals
            refine wp_region_under (by kernel_rfl) (by kernel_rfl) ?_
            repeat (go_big_quiet_step ((go_at_call 112; (with_reducible refine under_drew (cL _)))))
            refine wpQuiet_nil ?_
            intro wz hwz
            obtain ⟨z, rfl⟩ := hwz
            have hPz := HX.out.1.read z.below
            rw [hall] at hPz
            have hpz := HX.out.2.2.trans (Past.of z.below)
            have hmz := HX.out.2.1.below z.below
            have cB' := begin_any a w0 z.W Y D Q n1 d dp GB cB GT dn t _ hnb (Lib.hid hPz.bgn)
            have hlz := hmz.lt
            have HZ := Lib.hid (And.intro hmz hpz)
            have hzz := z.below.size
            clear cL h3u hglu hmz hpz hPz HX
            generalize z.W = w4 at *
            go_wp2_with (go_at_call 113; refine cB'.mono ?_; rintro e w5 ⟨rfl, V, GT', cT', GU, cU, hM, hp5, v1, v2, v3⟩)
            go_end0
            refine ⟨rfl, HZ.out.1.past hp5 (fun e => ?_), HZ.out.2.trans (hp5.mono fun b hb => ?_), .inr ⟨hall, V, GT', cT', GU, cU, hM, by omega, by omega, by omega⟩⟩
            · refine hB ?_
              simp only [List.mem_cons, List.not_mem_nil, or_false] at e
              simp only [fpP, List.mem_cons]
              rcases e with e | e | e
              · exact .inr (.inr (.inl e))
              · exact .inr (.inr (.inr (.inl e)))
              · exact .inr (.inr (.inr (.inr (.inl e))))
            · simp only [List.mem_cons, List.not_mem_nil, or_false] at hb
              simp only [wrP, List.mem_cons]
              rcases hb with e | e | e
              · exact .inr (.inl e)
              · exact .inr (.inr (.inl e))
              · exact .inr (.inr (.inr (.inl e)))
        · have ek : n1 - kk n1 (p + 1) nb ≠ 0 := by
            obtain rfl | rfl : nb = 1 ∨ nb = 2 := by omega
            · rw [kk1]; rw [hnb] at hall hp; simp at hall hp; omega
            · rw [kk2]; rw [hnb] at hall hp; simp at hall hp; omega
          have d1 : (((n1 - kk n1 (p + 1) nb : Nat) : Int) == 0) = false := beq_eq_false_iff_ne.2 (by omega)
          have d2 : ((n1 - kk n1 (p + 1) nb : Nat) == 0) = false := beq_eq_false_iff_ne.2 ek
          generalize n1 - kk n1 (p + 1) nb = lf at *
          obtain rfl | rfl : nb = 1 ∨ nb = 2 := by omega
          all_goals
            refine wp_region_under (by kernel_rfl) (by kernel_rfl) ?_
            repeat (go_big_quiet_step ((go_at_call 112; (with_reducible refine under_drew (cL _)))))
            refine wpQuiet_nil ?_
            intro wz hwz
            obtain ⟨z, rfl⟩ := hwz
            have HZ := Lib.hid (And.intro (HX.out.2.1.below z.below) (And.intro (HX.out.2.2.trans (Past.of z.below)) (HX.out.1.read z.below)))
            clear cL h3u hglu HX
            generalize z.W = w4 at *
            go_wp2
            go_end0
            exact ⟨rfl, HZ.out.1, HZ.out.2.1, .inl ⟨by omega, HZ.out.2.2⟩⟩
      · have hk : kk n1 p (j + 1) = n1 := by
          unfold kk; rw [show j + 1 - 1 = j by omega]; omega
        have hbx := hbd.bx
        rw [hk] at hbx
        have cS := build.step_off (Q (j + 1)) n1 (some ⟨Y.T (j + 1), 0, none⟩) hn64 (some ⟨Bm, 0, none⟩) wr hbx
        have HPR := Lib.hid (And.intro hPr (And.intro hmr hpr))
        clear HR hPr hmr hpr hbd hbx
        go_wp2_with (go_at_call 111; refine cS.mono ?_; rintro e w2 ⟨rfl, q, rfl⟩)
        go_roundw
        case rel => exact ⟨j + 1, by omega, by simp, Lib.hid ⟨by rw [Nat.add_mul]; omega, HPR.out.1.read (below_drewN' _ _), HPR.out.2.1.below (below_drewN' _ _), HPR.out.2.2.trans (Past.of (below_drewN' _ _))⟩⟩
        case measure => simp [intOf]; omega
    · obtain rfl : j = nb := by omega
      obtain ⟨hjp, _⟩ := HR.out
      rw [hnb] at hp
      exact absurd hp (by simp only [Nat.add_sub_cancel]; omega)
end Go.Proofs.YteedbnoefnlidaaGreatDoor.dual
