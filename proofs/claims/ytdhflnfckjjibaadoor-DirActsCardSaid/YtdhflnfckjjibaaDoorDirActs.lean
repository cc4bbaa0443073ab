/- DirActs: the walk. -/
import Derived.Test.YtdhflnfckjjibaaDoorDirBoth
import Derived.LoopTactic
namespace Go.Proofs.YtdhflnfckjjibaaDoor.dir
open Go.ChangeShapes Go.WideShapes Go.ChangeAt Go.RowKit split trap errs
set_option linter.unusedSimpArgs false
set_option linter.unusedVariables false

set_option maxRecDepth 20000 in
theorem acts_many (i : Int) (n : Nat) (s : Option Addr) (la ca : Nat) (hl : 60 < la) (w : World) :
    Calls Tryd.prog 3 #[.int .i64 i, .slice s la ca, .int .u64 n] w fun e w' => e = .returned (.bool true) ∧ Below w.heap.size w w' := by
  have d1 : decide (60 < (la : Int)) = true := decide_eq_true (by omega)
  go_enter Tryd.func3, Tryd.ntmps3
  go_wp2_with (go_at_call 6; refine (alive_any _).mono ?_; rintro e w1 ⟨rfl, hb1⟩)
  go_ret
  exact ⟨rfl, hb1⟩
set_option maxRecDepth 20000 in
theorem acts_bad (i : Int) (hi : i < 0 ∨ 5 < i) (n : Nat) (s : Option Addr) (la ca : Nat) (hl : la ≤ 60) (w : World) (a : String → Addr) (hE : ErrsOk names a w) :
    Calls Tryd.prog 3 #[.int .i64 i, .slice s la ca, .int .u64 n] w fun e w' => e = .returned (.bool true) ∧ Below w.heap.size w w' := by
  have d1 : decide (60 < (la : Int)) = false := decide_eq_false (by omega)
  go_enter Tryd.func3, Tryd.ntmps3
  go_wp2_with (first
    | (go_at_call 6; refine (alive_any _).mono ?_; rintro e w1 ⟨rfl, hb1⟩)
    | (go_at_call 7; refine (new_no i hi _ _ ((hE.below hb1).at gErrRange (nm_mem (i := 0) (by decide)))).mono ?_; rintro e w2 ⟨rfl, q, rfl⟩)
    | (go_at_call 8; refine (rnew_no i hi _).mono ?_; rintro e w3 ⟨rfl, rfl⟩)
    | (go_at_call 9; refine (num_range a _ ((hE.below hb1).drewN q)).mono ?_; rintro e w4 ⟨rfl, hb4⟩))
  go_ret
  exact ⟨rfl, under.below_step hb1 (split.below_drewN hb4)⟩
/-- a list that is written over -/
structure Spoil (G m A B g d : Nat) (f : Nat → Nat) (w0 W : World) : Prop where
  t : Two A B g d f f w0 W
  cell : ∀ j, j < m → ∃ v, W.cell? ⟨G, j, none⟩ = some v
  fz : ∀ j, W.frozen? ⟨G, j, none⟩ = false
  na : A ≠ G
  nb : B ≠ G
  ng : g ≠ G
  lo : w0.heap.size ≤ G
theorem Spoil.store {G m A B g d : Nat} {f : Nat → Nat} {w0 W : World} (h : Spoil G m A B g d f w0 W) (i : Nat) (u : Value) : Spoil G m A B g d f w0 (W.setCell ⟨G, i, none⟩ u) := by
  have hp : Past [G] W (W.setCell ⟨G, i, none⟩ u) := (Past.refl [G] W).store (.inl (by simp)) u
  refine ⟨⟨h.t.a.past hp (by simp; exact h.na), h.t.b.past hp (by simp; exact h.nb) (by simp; exact h.ng), below_past h.t.below hp h.lo, h.t.la, h.t.lb, h.t.lg, h.t.ab, h.t.ag⟩, fun j hj => ?_, fun j => ?_, h.na, h.nb, h.ng, h.lo⟩
  · obtain ⟨v, hv⟩ := h.cell j hj
    by_cases e : j = i
    · subst e; exact ⟨u, by simp [World.cell?_setCell_same', hv]⟩
    · exact ⟨v, by rw [World.cell?_setCell_other _ _ _ _ (by intro e'; injection e' with _ e' _; omega)]; exact hv⟩
  · simp [go_sem, h.fz]
/-- between two acts -/
def Sa (A B g d : Nat) (w0 W : World) : Prop := ∃ f, Two A B g d f f w0 W
set_option maxRecDepth 20000 in
set_option maxHeartbeats 4000000 in
theorem acts_good (d n : Nat) (hd : d ≤ 5) (hn : n < 18446744073709551616) (s : Option Addr) (la ca : Nat) (az : Nat → Ac) (hl : la ≤ 60) (w : World) (a : String → Addr) (hE : ErrsOk names a w) (hA : ActAt s la w az) :
    Calls Tryd.prog 3 #[.int .i64 d, .slice s la ca, .int .u64 n] w fun e w' => e = .returned (.bool true) ∧ Below w.heap.size w w' := by
  have d1 : decide (60 < (la : Int)) = false := decide_eq_false (by omega)
  have HE := Lib.hid hE
  have HA := Lib.hid hA
  clear hE hA
  go_enter Tryd.func3, Tryd.ntmps3
  go_wp2_with (first
    | (go_at_call 6; refine (alive_any _).mono ?_; rintro e w1 ⟨rfl, hb1⟩)
    | (go_at_call 7; refine (new_yes d hd _).mono ?_; rintro e w2 ⟨rfl, hd2, hb2⟩)
    | (go_at_call 8; refine (rnew_yes d hd _).mono ?_; rintro e w3 ⟨rfl, hd3, hb3⟩)
    | (go_at_call 9; refine (num_nil _).mono ?_; rintro e w4 ⟨rfl, rfl⟩))
  have h2 := hd2.lt
  have h1 := hb1.size
  have h21 := hb2.size
  have hT : Two w1.heap.size (w2.heap.size + 1) w2.heap.size d (fun _ => 0) (fun _ => 0) w w3 :=
    ⟨hd2.below hb3, hd3, under.below_step (under.below_step hb1 hb2) hb3, h1, by omega, by omega, by omega, by omega⟩
  generalize hA0 : w1.heap.size = A at hT
  generalize hB0 : w2.heap.size + 1 = B at hT
  generalize hG0 : w2.heap.size = g at hT
  clear hd2 hd3 hb1 hb2 hb3 h2 h1 h21 hA0 hB0 hG0
  go_loopw [61] (fun i W => ∃ j : Nat, j ≤ la ∧ i = .int .i64 j ∧ Sa A B g d w W) (fun i _ => la - (intOf i).toNat)
  case atStart => exact ⟨0, by omega, rfl, _, hT⟩
  case round =>
    obtain ⟨j, hj, rfl, f, hS⟩ := hrel
    clear hT
    rcases Nat.lt_or_ge j la with hlt | hge
    · have hlt' : (j : Int) < (la : Int) := by omega
      obtain ⟨x, rfl, hc⟩ := HA.out j hlt
      obtain ⟨c0, c1, c2, c3⟩ := hc wr hS.below
      clear HA hc
      generalize az j = c at c0 c1 c2 c3
      have hR : Rd A B g d wr.heap.size c f f w (wr.alloc (.cells #[.int .i64 c.k, .int .i64 c.a, .int .i64 c.b, .int .i64 c.n] 35)) :=
        ⟨hS.past ((Below.refl _ _).alloc (Nat.le_refl _) _), ⟨by rw [cell_alloc_row]; rfl, by rw [cell_alloc_row]; rfl, by rw [cell_alloc_row]; rfl, by rw [cell_alloc_row]; rfl⟩, Nat.ne_of_gt hS.a.lt, Nat.ne_of_gt hS.b.lg⟩
      go_wp2_with fail
      generalize wr.alloc (.cells #[.int .i64 c.k, .int .i64 c.a, .int .i64 c.b, .int .i64 c.n] 35) = W0 at hR ⊢
      generalize wr.heap.size = X at hR ⊢
      clear c0 c1 c2 c3 hS
      obtain ⟨ck, ca, cb, cn⟩ := c
      have cRow := fun f W (hW : RAt B g d f W) => hW.row
      obtain ⟨m, hm⟩ : ∃ m, 2 ^ d = m := ⟨_, rfl⟩
      rw [hm] at cRow
      have hm32 := hm ▸ two_le d hd
      by_cases hk : ck = 0
      · by_cases hi : 0 ≤ ca ∧ ca < (m : Int)
        ·
          as_aux_lemma =>
            -- SET_Y
            obtain ⟨i, rfl⟩ := Int.eq_ofNat_of_zero_le hi.1
            have him : i < m := Int.ofNat_lt.1 hi.2
            have hi2 : (i : Int) < (m : Int) := hi.2
            subst hk
            obtain ⟨sk, sb, f', hsb, cR, cD⟩ := set_both d hd f (i : Int) cb cn (a "ambler/api.ErrRange")
            have cR' := fun W (hW : DAt A d f W) hr => cR A W hW hr
            have cD' := fun W (hW : RAt B g d f W) => cD B g W hW
            clear cR cD
            have cEnt := fun W (hW : DAt A d f' W) => entry_yes A d f' W hW i (hm ▸ him)
            have cVal := fun W (hW : RAt B g d f' W) => hW.ent i (hm ▸ him)
            obtain ⟨pk, pl, pb, hpb, cSR, cSD⟩ := span_both d hd (i : Int) cb (a "ambler/api.ErrRange")
            obtain ⟨av, cAR, cAD⟩ := at_both d hd f' n hn
            have rw0 := cRow _ _ hR.t.b
            clear hi
            obtain ⟨xk, xa, xb, xn⟩ := hR.x
            go_quiet (fail)
            have hR1 := hR.past (drewN_below W0 nq)
            generalize W0.drewN nq = W1 at hR1 ⊢
            clear xk xa xb xn rw0 hR
            obtain ⟨xk, xa, xb, xn⟩ := hR1.x
            go_wp2_with (first
              | (go_at_call 10; refine (cR' _ hR1.t.a ((HE.out.below hR1.t.below).at gErrRange (nm_mem (i := 0) (by decide)))).mono ?_; rintro e w2 ⟨rfl, p2, d2⟩; have hR2 := hR1.setA p2 d2; clear p2 d2; obtain ⟨khR2, ahR2, bhR2, nhR2⟩ := hR2.x)
              | (go_at_call 11; refine (cD' _ hR2.t.b).mono ?_; rintro e w3 ⟨rfl, p3, d3⟩; have hR3 := hR2.setB p3 d3; clear p3 d3 cR' cD' hR2; obtain ⟨khR3, ahR3, bhR3, nhR3⟩ := hR3.x)
              | (go_at_call 9; (with_reducible refine (num_errB a sb hsb _ (HE.out.below hR3.t.below)).mono ?_); rintro e w4 ⟨rfl, hbhR4⟩; have hR4 := hR3.past hbhR4; clear hbhR4; obtain ⟨khR4, ahR4, bhR4, nhR4⟩ := hR4.x)
              | (go_at_call 13; refine (cEnt _ hR4.t.a).mono ?_; rintro e w20 ⟨rfl, rfl⟩; have rw20 := cRow _ _ hR4.t.b; have v20 := cVal _ hR4.t.b))
            clear cEnt cVal
            go_quiet (fail)
            have hR5 := hR4.past (drewN_below _ nq)
            generalize World.drewN _ nq = W5 at hR5 ⊢
            obtain ⟨khR5, ahR5, bhR5, nhR5⟩ := hR5.x
            -- tail
            go_wp2_with (first
              | (go_at_call 14; refine (cSR _ _ _ hR5.t.a ((HE.out.below hR5.t.below).at gErrRange (nm_mem (i := 0) (by decide)))).mono ?_; rintro e w6 ⟨rfl, hb6⟩; have hR6 := hR5.past hb6; clear hb6 cSR; obtain ⟨khR6, ahR6, bhR6, nhR6⟩ := hR6.x)
              | (go_at_call 15; refine (cSD _ _ _ _ hR6.t.b).mono ?_; rintro e w7 ⟨rfl, hb7⟩; have hR7 := hR6.past hb7; clear hb7 cSD; obtain ⟨khR7, ahR7, bhR7, nhR7⟩ := hR7.x)
              | (go_at_call 9; (with_reducible refine (num_nil _).mono ?_); rintro e w8 ⟨rfl, rfl⟩; have hR8 := hR7)
              | (go_at_call 9; (with_reducible refine (num_errB a pb hpb _ (HE.out.below hR8.t.below)).mono ?_); rintro e w9 ⟨rfl, hbhR9⟩; have hR9 := hR8.past hbhR9; clear hbhR9; obtain ⟨khR9, ahR9, bhR9, nhR9⟩ := hR9.x)
              | (go_at_call 16; refine (cAR _ _ hR9.t.a).mono ?_; rintro e w10 ⟨rfl, hb10⟩; have hR10 := hR9.past hb10; clear hb10 cAR)
              | (go_at_call 17; refine (cAD _ _ _ hR10.t.b).mono ?_; rintro e w11 ⟨rfl, hb11⟩; have hR11 := hR10.past hb11; clear hb11 cAD))
            have hEnd := Lib.hid hR11.t
            go_roundw
            case rel => exact ⟨j + 1, by omega, by simp, _, hEnd.out⟩
            case measure => simp [intOf]; omega
        · by_cases hi0 : ca < 0
          ·
            as_aux_lemma =>
              -- SET_N
              have q1 : decide ((0 : Int) ≤ ca) = false := decide_eq_false (by omega)
              subst hk
              obtain ⟨sk, sb, f', hsb, cR, cD⟩ := set_both d hd f ca cb cn (a "ambler/api.ErrRange")
              have cR' := fun W (hW : DAt A d f W) hr => cR A W hW hr
              have cD' := fun W (hW : RAt B g d f W) => cD B g W hW
              clear cR cD
              have cEnt := fun W (hW : DAt A d f' W) hr => entry_no A d f' W hW ca (by rw [hm]; omega) (errV (a "ambler/api.ErrRange")) hr
              obtain ⟨pk, pl, pb, hpb, cSR, cSD⟩ := span_both d hd ca cb (a "ambler/api.ErrRange")
              obtain ⟨av, cAR, cAD⟩ := at_both d hd f' n hn
              have rw0 := cRow _ _ hR.t.b
              clear hi
              obtain ⟨xk, xa, xb, xn⟩ := hR.x
              go_quiet (fail)
              have hR1 := hR.past (drewN_below W0 nq)
              generalize W0.drewN nq = W1 at hR1 ⊢
              clear xk xa xb xn rw0 hR
              obtain ⟨xk, xa, xb, xn⟩ := hR1.x
              -- tail
              go_wp2_with (first
                | (go_at_call 10; refine (cR' _ hR1.t.a ((HE.out.below hR1.t.below).at gErrRange (nm_mem (i := 0) (by decide)))).mono ?_; rintro e w2 ⟨rfl, p2, d2⟩; have hR2 := hR1.setA p2 d2; clear p2 d2; obtain ⟨khR2, ahR2, bhR2, nhR2⟩ := hR2.x)
                | (go_at_call 11; refine (cD' _ hR2.t.b).mono ?_; rintro e w3 ⟨rfl, p3, d3⟩; have hR3 := hR2.setB p3 d3; clear p3 d3 cR' cD' hR2; obtain ⟨khR3, ahR3, bhR3, nhR3⟩ := hR3.x)
                | (go_at_call 9; (with_reducible refine (num_errB a sb hsb _ (HE.out.below hR3.t.below)).mono ?_); rintro e w4 ⟨rfl, hbhR4⟩; have hR4 := hR3.past hbhR4; clear hbhR4; obtain ⟨khR4, ahR4, bhR4, nhR4⟩ := hR4.x)
                | (go_at_call 13; refine (cEnt _ hR4.t.a ((HE.out.below hR4.t.below).at gErrRange (nm_mem (i := 0) (by decide)))).mono ?_; rintro e w20 ⟨rfl, q20, rfl⟩; have hR5 := hR4.past (drewN_below _ q20); clear cEnt; obtain ⟨khR5, ahR5, bhR5, nhR5⟩ := hR5.x)
                | (go_at_call 14; refine (cSR _ _ _ hR5.t.a ((HE.out.below hR5.t.below).at gErrRange (nm_mem (i := 0) (by decide)))).mono ?_; rintro e w6 ⟨rfl, hb6⟩; have hR6 := hR5.past hb6; clear hb6 cSR; obtain ⟨khR6, ahR6, bhR6, nhR6⟩ := hR6.x)
                | (go_at_call 15; refine (cSD _ _ _ _ hR6.t.b).mono ?_; rintro e w7 ⟨rfl, hb7⟩; have hR7 := hR6.past hb7; clear hb7 cSD; obtain ⟨khR7, ahR7, bhR7, nhR7⟩ := hR7.x)
                | (go_at_call 9; (with_reducible refine (num_range a _ (HE.out.below hR7.t.below)).mono ?_); rintro e w8 ⟨rfl, hbhR8⟩; have hR8 := hR7.past hbhR8; clear hbhR8; obtain ⟨khR8, ahR8, bhR8, nhR8⟩ := hR8.x)
                | (go_at_call 9; (with_reducible refine (num_errB a pb hpb _ (HE.out.below hR8.t.below)).mono ?_); rintro e w9 ⟨rfl, hbhR9⟩; have hR9 := hR8.past hbhR9; clear hbhR9; obtain ⟨khR9, ahR9, bhR9, nhR9⟩ := hR9.x)
                | (go_at_call 16; refine (cAR _ _ hR9.t.a).mono ?_; rintro e w10 ⟨rfl, hb10⟩; have hR10 := hR9.past hb10; clear hb10 cAR)
                | (go_at_call 17; refine (cAD _ _ _ hR10.t.b).mono ?_; rintro e w11 ⟨rfl, hb11⟩; have hR11 := hR10.past hb11; clear hb11 cAD))
              have hEnd := Lib.hid hR11.t
              go_roundw
              case rel => exact ⟨j + 1, by omega, by simp, _, hEnd.out⟩
              case measure => simp [intOf]; omega
          ·
            as_aux_lemma =>
              -- SET_B
              have q1 : decide ((0 : Int) ≤ ca) = true := decide_eq_true (by omega)
              have q2 : decide (ca < (m : Int)) = false := decide_eq_false (by omega)
              subst hk
              obtain ⟨sk, sb, f', hsb, cR, cD⟩ := set_both d hd f ca cb cn (a "ambler/api.ErrRange")
              have cR' := fun W (hW : DAt A d f W) hr => cR A W hW hr
              have cD' := fun W (hW : RAt B g d f W) => cD B g W hW
              clear cR cD
              have cEnt := fun W (hW : DAt A d f' W) hr => entry_no A d f' W hW ca (by rw [hm]; omega) (errV (a "ambler/api.ErrRange")) hr
              obtain ⟨pk, pl, pb, hpb, cSR, cSD⟩ := span_both d hd ca cb (a "ambler/api.ErrRange")
              obtain ⟨av, cAR, cAD⟩ := at_both d hd f' n hn
              have rw0 := cRow _ _ hR.t.b
              clear hi
              obtain ⟨xk, xa, xb, xn⟩ := hR.x
              go_quiet (fail)
              have hR1 := hR.past (drewN_below W0 nq)
              generalize W0.drewN nq = W1 at hR1 ⊢
              clear xk xa xb xn rw0 hR
              obtain ⟨xk, xa, xb, xn⟩ := hR1.x
              -- tail
              go_wp2_with (first
                | (go_at_call 10; refine (cR' _ hR1.t.a ((HE.out.below hR1.t.below).at gErrRange (nm_mem (i := 0) (by decide)))).mono ?_; rintro e w2 ⟨rfl, p2, d2⟩; have hR2 := hR1.setA p2 d2; clear p2 d2; obtain ⟨khR2, ahR2, bhR2, nhR2⟩ := hR2.x)
                | (go_at_call 11; refine (cD' _ hR2.t.b).mono ?_; rintro e w3 ⟨rfl, p3, d3⟩; have hR3 := hR2.setB p3 d3; clear p3 d3 cR' cD' hR2; obtain ⟨khR3, ahR3, bhR3, nhR3⟩ := hR3.x)
                | (go_at_call 9; (with_reducible refine (num_errB a sb hsb _ (HE.out.below hR3.t.below)).mono ?_); rintro e w4 ⟨rfl, hbhR4⟩; have hR4 := hR3.past hbhR4; clear hbhR4; obtain ⟨khR4, ahR4, bhR4, nhR4⟩ := hR4.x)
                | (go_at_call 13; refine (cEnt _ hR4.t.a ((HE.out.below hR4.t.below).at gErrRange (nm_mem (i := 0) (by decide)))).mono ?_; rintro e w20 ⟨rfl, q20, rfl⟩; have hR5 := hR4.past (drewN_below _ q20); clear cEnt; obtain ⟨khR5, ahR5, bhR5, nhR5⟩ := hR5.x)
                | (go_at_call 14; refine (cSR _ _ _ hR5.t.a ((HE.out.below hR5.t.below).at gErrRange (nm_mem (i := 0) (by decide)))).mono ?_; rintro e w6 ⟨rfl, hb6⟩; have hR6 := hR5.past hb6; clear hb6 cSR; obtain ⟨khR6, ahR6, bhR6, nhR6⟩ := hR6.x)
                | (go_at_call 15; refine (cSD _ _ _ _ hR6.t.b).mono ?_; rintro e w7 ⟨rfl, hb7⟩; have hR7 := hR6.past hb7; clear hb7 cSD; obtain ⟨khR7, ahR7, bhR7, nhR7⟩ := hR7.x)
                | (go_at_call 9; (with_reducible refine (num_range a _ (HE.out.below hR7.t.below)).mono ?_); rintro e w8 ⟨rfl, hbhR8⟩; have hR8 := hR7.past hbhR8; clear hbhR8; obtain ⟨khR8, ahR8, bhR8, nhR8⟩ := hR8.x)
                | (go_at_call 9; (with_reducible refine (num_errB a pb hpb _ (HE.out.below hR8.t.below)).mono ?_); rintro e w9 ⟨rfl, hbhR9⟩; have hR9 := hR8.past hbhR9; clear hbhR9; obtain ⟨khR9, ahR9, bhR9, nhR9⟩ := hR9.x)
                | (go_at_call 16; refine (cAR _ _ hR9.t.a).mono ?_; rintro e w10 ⟨rfl, hb10⟩; have hR10 := hR9.past hb10; clear hb10 cAR)
                | (go_at_call 17; refine (cAD _ _ _ hR10.t.b).mono ?_; rintro e w11 ⟨rfl, hb11⟩; have hR11 := hR10.past hb11; clear hb11 cAD))
              have hEnd := Lib.hid hR11.t
              go_roundw
              case rel => exact ⟨j + 1, by omega, by simp, _, hEnd.out⟩
              case measure => simp [intOf]; omega
      · by_cases hk1 : ck = 1
        · clear hk
          have hk := hk1
          clear hk1
          by_cases hi : 0 ≤ ca ∧ ca < (m : Int)
          · by_cases hn0 : 0 ≤ cn
            ·
              as_aux_lemma =>
                -- PUT_YY
                obtain ⟨i, rfl⟩ := Int.eq_ofNat_of_zero_le hi.1
                have him : i < m := Int.ofNat_lt.1 hi.2
                have hi2 : (i : Int) < (m : Int) := hi.2
                subst hk
                obtain ⟨nn, rfl⟩ := Int.eq_ofNat_of_zero_le hn0
                have cP := fun W (hW : DAt A d f W) => put_yes A d f W hW i nn (hm ▸ him)
                have cEnt := fun W (hW : DAt A d (setF f i (i + 1) nn) W) => entry_yes A d (setF f i (i + 1) nn) W hW i (hm ▸ him)
                have cVal := fun W (hW : RAt B g d (setF f i (i + 1) nn) W) => hW.ent i (hm ▸ him)
                obtain ⟨pk, pl, pb, hpb, cSR, cSD⟩ := span_both d hd (i : Int) cb (a "ambler/api.ErrRange")
                obtain ⟨av, cAR, cAD⟩ := at_both d hd (setF f i (i + 1) nn) n hn
                have rw0 := cRow _ _ hR.t.b
                clear hi
                obtain ⟨xk, xa, xb, xn⟩ := hR.x
                go_quiet (fail)
                have hR1 := hR.past (drewN_below W0 nq)
                generalize W0.drewN nq = W1 at hR1 ⊢
                clear xk xa xb xn rw0 hR
                obtain ⟨xk, xa, xb, xn⟩ := hR1.x
                have rw1 := cRow _ _ hR1.t.b
                go_wp2_with fail
                refine tail.wp_region_tail_drew 9 (by kernel_rfl) (by kernel_rfl) ?_
                simp only [List.take_succ_cons, List.take_zero, List.drop_succ_cons, List.drop_zero]
                repeat (quiet_step (fail))
                refine wpQuiet_nil ?_
                intro w2 hw2
                obtain ⟨q2, rfl⟩ := hw2
                have hR2 := hR1.past (drewN_below W1 q2)
                generalize W1.drewN q2 = W2 at hR2 ⊢
                clear hR1 xk xa xb xn rw1
                have v2 := hR2.t.b.ent i (hm ▸ him)
                have fz2 := hR2.t.b.fz i
                have hR3 := hR2.setB (f' := setF f i (i + 1) nn) ((Past.refl [g] W2).store (p := ⟨g, i, none⟩) (.inl (by simp)) (.int .i64 (nn : Nat))) (hR2.t.b.put i nn (hm ▸ him) (setF f i (i + 1) nn) (fun j => by rw [setF_next f i i nn j (Nat.le_refl _), setF_none]))
                obtain ⟨khR3, ahR3, bhR3, nhR3⟩ := hR3.x
                go_wp2_with (first
                  | (go_at_call 12; refine (cP _ hR3.t.a).mono ?_; rintro e w4 ⟨rfl, p4, d4⟩; have hR4 := hR3.setA p4 d4; clear p4 d4 cP; obtain ⟨khR4, ahR4, bhR4, nhR4⟩ := hR4.x)
                  | (go_at_call 9; (with_reducible refine (num_nil _).mono ?_); rintro e w5 ⟨rfl, rfl⟩)
                  | (go_at_call 13; refine (cEnt _ hR4.t.a).mono ?_; rintro e w20 ⟨rfl, rfl⟩; have rw20 := cRow _ _ hR4.t.b; have v20 := cVal _ hR4.t.b))
                clear cEnt cVal
                go_quiet (fail)
                have hR5 := hR4.past (drewN_below _ nq)
                generalize World.drewN _ nq = W5 at hR5 ⊢
                obtain ⟨khR5, ahR5, bhR5, nhR5⟩ := hR5.x
                -- tail
                go_wp2_with (first
                  | (go_at_call 14; refine (cSR _ _ _ hR5.t.a ((HE.out.below hR5.t.below).at gErrRange (nm_mem (i := 0) (by decide)))).mono ?_; rintro e w6 ⟨rfl, hb6⟩; have hR6 := hR5.past hb6; clear hb6 cSR; obtain ⟨khR6, ahR6, bhR6, nhR6⟩ := hR6.x)
                  | (go_at_call 15; refine (cSD _ _ _ _ hR6.t.b).mono ?_; rintro e w7 ⟨rfl, hb7⟩; have hR7 := hR6.past hb7; clear hb7 cSD; obtain ⟨khR7, ahR7, bhR7, nhR7⟩ := hR7.x)
                  | (go_at_call 9; (with_reducible refine (num_nil _).mono ?_); rintro e w8 ⟨rfl, rfl⟩; have hR8 := hR7)
                  | (go_at_call 9; (with_reducible refine (num_errB a pb hpb _ (HE.out.below hR8.t.below)).mono ?_); rintro e w9 ⟨rfl, hbhR9⟩; have hR9 := hR8.past hbhR9; clear hbhR9; obtain ⟨khR9, ahR9, bhR9, nhR9⟩ := hR9.x)
                  | (go_at_call 16; refine (cAR _ _ hR9.t.a).mono ?_; rintro e w10 ⟨rfl, hb10⟩; have hR10 := hR9.past hb10; clear hb10 cAR)
                  | (go_at_call 17; refine (cAD _ _ _ hR10.t.b).mono ?_; rintro e w11 ⟨rfl, hb11⟩; have hR11 := hR10.past hb11; clear hb11 cAD))
                have hEnd := Lib.hid hR11.t
                go_roundw
                case rel => exact ⟨j + 1, by omega, by simp, _, hEnd.out⟩
                case measure => simp [intOf]; omega
            ·
              as_aux_lemma =>
                -- PUT_YN
                obtain ⟨i, rfl⟩ := Int.eq_ofNat_of_zero_le hi.1
                have him : i < m := Int.ofNat_lt.1 hi.2
                have hi2 : (i : Int) < (m : Int) := hi.2
                subst hk
                have q3 : decide ((0 : Int) ≤ cn) = false := decide_eq_false (by omega)
                have cP := fun W (hW : DAt A d f W) hr => put_neg A d f W hW i cn (hm ▸ him) (by omega) (errV (a "ambler/api.ErrRange")) hr
                have cEnt := fun W (hW : DAt A d f W) => entry_yes A d f W hW i (hm ▸ him)
                have cVal := fun W (hW : RAt B g d f W) => hW.ent i (hm ▸ him)
                obtain ⟨pk, pl, pb, hpb, cSR, cSD⟩ := span_both d hd (i : Int) cb (a "ambler/api.ErrRange")
                obtain ⟨av, cAR, cAD⟩ := at_both d hd f n hn
                have rw0 := cRow _ _ hR.t.b
                clear hi
                obtain ⟨xk, xa, xb, xn⟩ := hR.x
                go_quiet (fail)
                have hR1 := hR.past (drewN_below W0 nq)
                generalize W0.drewN nq = W1 at hR1 ⊢
                clear xk xa xb xn rw0 hR
                obtain ⟨xk, xa, xb, xn⟩ := hR1.x
                go_wp2_with (first
                  | (go_at_call 12; refine (cP _ hR1.t.a ((HE.out.below hR1.t.below).at gErrRange (nm_mem (i := 0) (by decide)))).mono ?_; rintro e w2 ⟨rfl, rfl⟩)
                  | (go_at_call 9; (with_reducible refine (num_range a _ (HE.out.below hR1.t.below)).mono ?_); rintro e w4 ⟨rfl, hbhR4⟩; have hR4 := hR1.past hbhR4; clear hbhR4; obtain ⟨khR4, ahR4, bhR4, nhR4⟩ := hR4.x)
                  | (go_at_call 13; refine (cEnt _ hR4.t.a).mono ?_; rintro e w20 ⟨rfl, rfl⟩; have rw20 := cRow _ _ hR4.t.b; have v20 := cVal _ hR4.t.b))
                clear cEnt cVal
                go_quiet (fail)
                have hR5 := hR4.past (drewN_below _ nq)
                generalize World.drewN _ nq = W5 at hR5 ⊢
                obtain ⟨khR5, ahR5, bhR5, nhR5⟩ := hR5.x
                -- tail
                go_wp2_with (first
                  | (go_at_call 14; refine (cSR _ _ _ hR5.t.a ((HE.out.below hR5.t.below).at gErrRange (nm_mem (i := 0) (by decide)))).mono ?_; rintro e w6 ⟨rfl, hb6⟩; have hR6 := hR5.past hb6; clear hb6 cSR; obtain ⟨khR6, ahR6, bhR6, nhR6⟩ := hR6.x)
                  | (go_at_call 15; refine (cSD _ _ _ _ hR6.t.b).mono ?_; rintro e w7 ⟨rfl, hb7⟩; have hR7 := hR6.past hb7; clear hb7 cSD; obtain ⟨khR7, ahR7, bhR7, nhR7⟩ := hR7.x)
                  | (go_at_call 9; (with_reducible refine (num_nil _).mono ?_); rintro e w8 ⟨rfl, rfl⟩; have hR8 := hR7)
                  | (go_at_call 9; (with_reducible refine (num_errB a pb hpb _ (HE.out.below hR8.t.below)).mono ?_); rintro e w9 ⟨rfl, hbhR9⟩; have hR9 := hR8.past hbhR9; clear hbhR9; obtain ⟨khR9, ahR9, bhR9, nhR9⟩ := hR9.x)
                  | (go_at_call 16; refine (cAR _ _ hR9.t.a).mono ?_; rintro e w10 ⟨rfl, hb10⟩; have hR10 := hR9.past hb10; clear hb10 cAR)
                  | (go_at_call 17; refine (cAD _ _ _ hR10.t.b).mono ?_; rintro e w11 ⟨rfl, hb11⟩; have hR11 := hR10.past hb11; clear hb11 cAD))
                have hEnd := Lib.hid hR11.t
                go_roundw
                case rel => exact ⟨j + 1, by omega, by simp, _, hEnd.out⟩
                case measure => simp [intOf]; omega
          · by_cases hi0 : ca < 0
            ·
              as_aux_lemma =>
                -- PUT_N
                have q1 : decide ((0 : Int) ≤ ca) = false := decide_eq_false (by omega)
                subst hk
                have cP := fun W (hW : DAt A d f W) hr => put_no A d f W hW ca cn (by rw [hm]; omega) (errV (a "ambler/api.ErrRange")) hr
                have cEnt := fun W (hW : DAt A d f W) hr => entry_no A d f W hW ca (by rw [hm]; omega) (errV (a "ambler/api.ErrRange")) hr
                obtain ⟨pk, pl, pb, hpb, cSR, cSD⟩ := span_both d hd ca cb (a "ambler/api.ErrRange")
                obtain ⟨av, cAR, cAD⟩ := at_both d hd f n hn
                have rw0 := cRow _ _ hR.t.b
                clear hi
                obtain ⟨xk, xa, xb, xn⟩ := hR.x
                go_quiet (fail)
                have hR1 := hR.past (drewN_below W0 nq)
                generalize W0.drewN nq = W1 at hR1 ⊢
                clear xk xa xb xn rw0 hR
                obtain ⟨xk, xa, xb, xn⟩ := hR1.x
                -- tail
                go_wp2_with (first
                  | (go_at_call 12; refine (cP _ hR1.t.a ((HE.out.below hR1.t.below).at gErrRange (nm_mem (i := 0) (by decide)))).mono ?_; rintro e w2 ⟨rfl, rfl⟩)
                  | (go_at_call 9; (with_reducible refine (num_range a _ (HE.out.below hR1.t.below)).mono ?_); rintro e w4 ⟨rfl, hbhR4⟩; have hR4 := hR1.past hbhR4; clear hbhR4; obtain ⟨khR4, ahR4, bhR4, nhR4⟩ := hR4.x)
                  | (go_at_call 13; refine (cEnt _ hR4.t.a ((HE.out.below hR4.t.below).at gErrRange (nm_mem (i := 0) (by decide)))).mono ?_; rintro e w20 ⟨rfl, q20, rfl⟩; have hR5 := hR4.past (drewN_below _ q20); clear cEnt; obtain ⟨khR5, ahR5, bhR5, nhR5⟩ := hR5.x)
                  | (go_at_call 14; refine (cSR _ _ _ hR5.t.a ((HE.out.below hR5.t.below).at gErrRange (nm_mem (i := 0) (by decide)))).mono ?_; rintro e w6 ⟨rfl, hb6⟩; have hR6 := hR5.past hb6; clear hb6 cSR; obtain ⟨khR6, ahR6, bhR6, nhR6⟩ := hR6.x)
                  | (go_at_call 15; refine (cSD _ _ _ _ hR6.t.b).mono ?_; rintro e w7 ⟨rfl, hb7⟩; have hR7 := hR6.past hb7; clear hb7 cSD; obtain ⟨khR7, ahR7, bhR7, nhR7⟩ := hR7.x)
                  | (go_at_call 9; (with_reducible refine (num_range a _ (HE.out.below hR7.t.below)).mono ?_); rintro e w8 ⟨rfl, hbhR8⟩; have hR8 := hR7.past hbhR8; clear hbhR8; obtain ⟨khR8, ahR8, bhR8, nhR8⟩ := hR8.x)
                  | (go_at_call 9; (with_reducible refine (num_errB a pb hpb _ (HE.out.below hR8.t.below)).mono ?_); rintro e w9 ⟨rfl, hbhR9⟩; have hR9 := hR8.past hbhR9; clear hbhR9; obtain ⟨khR9, ahR9, bhR9, nhR9⟩ := hR9.x)
                  | (go_at_call 16; refine (cAR _ _ hR9.t.a).mono ?_; rintro e w10 ⟨rfl, hb10⟩; have hR10 := hR9.past hb10; clear hb10 cAR)
                  | (go_at_call 17; refine (cAD _ _ _ hR10.t.b).mono ?_; rintro e w11 ⟨rfl, hb11⟩; have hR11 := hR10.past hb11; clear hb11 cAD))
                have hEnd := Lib.hid hR11.t
                go_roundw
                case rel => exact ⟨j + 1, by omega, by simp, _, hEnd.out⟩
                case measure => simp [intOf]; omega
            ·
              as_aux_lemma =>
                -- PUT_B
                have q1 : decide ((0 : Int) ≤ ca) = true := decide_eq_true (by omega)
                have q2 : decide (ca < (m : Int)) = false := decide_eq_false (by omega)
                subst hk
                have cP := fun W (hW : DAt A d f W) hr => put_no A d f W hW ca cn (by rw [hm]; omega) (errV (a "ambler/api.ErrRange")) hr
                have cEnt := fun W (hW : DAt A d f W) hr => entry_no A d f W hW ca (by rw [hm]; omega) (errV (a "ambler/api.ErrRange")) hr
                obtain ⟨pk, pl, pb, hpb, cSR, cSD⟩ := span_both d hd ca cb (a "ambler/api.ErrRange")
                obtain ⟨av, cAR, cAD⟩ := at_both d hd f n hn
                have rw0 := cRow _ _ hR.t.b
                clear hi
                obtain ⟨xk, xa, xb, xn⟩ := hR.x
                go_quiet (fail)
                have hR1 := hR.past (drewN_below W0 nq)
                generalize W0.drewN nq = W1 at hR1 ⊢
                clear xk xa xb xn rw0 hR
                obtain ⟨xk, xa, xb, xn⟩ := hR1.x
                -- tail
                go_wp2_with (first
                  | (go_at_call 12; refine (cP _ hR1.t.a ((HE.out.below hR1.t.below).at gErrRange (nm_mem (i := 0) (by decide)))).mono ?_; rintro e w2 ⟨rfl, rfl⟩)
                  | (go_at_call 9; (with_reducible refine (num_range a _ (HE.out.below hR1.t.below)).mono ?_); rintro e w4 ⟨rfl, hbhR4⟩; have hR4 := hR1.past hbhR4; clear hbhR4; obtain ⟨khR4, ahR4, bhR4, nhR4⟩ := hR4.x)
                  | (go_at_call 13; refine (cEnt _ hR4.t.a ((HE.out.below hR4.t.below).at gErrRange (nm_mem (i := 0) (by decide)))).mono ?_; rintro e w20 ⟨rfl, q20, rfl⟩; have hR5 := hR4.past (drewN_below _ q20); clear cEnt; obtain ⟨khR5, ahR5, bhR5, nhR5⟩ := hR5.x)
                  | (go_at_call 14; refine (cSR _ _ _ hR5.t.a ((HE.out.below hR5.t.below).at gErrRange (nm_mem (i := 0) (by decide)))).mono ?_; rintro e w6 ⟨rfl, hb6⟩; have hR6 := hR5.past hb6; clear hb6 cSR; obtain ⟨khR6, ahR6, bhR6, nhR6⟩ := hR6.x)
                  | (go_at_call 15; refine (cSD _ _ _ _ hR6.t.b).mono ?_; rintro e w7 ⟨rfl, hb7⟩; have hR7 := hR6.past hb7; clear hb7 cSD; obtain ⟨khR7, ahR7, bhR7, nhR7⟩ := hR7.x)
                  | (go_at_call 9; (with_reducible refine (num_range a _ (HE.out.below hR7.t.below)).mono ?_); rintro e w8 ⟨rfl, hbhR8⟩; have hR8 := hR7.past hbhR8; clear hbhR8; obtain ⟨khR8, ahR8, bhR8, nhR8⟩ := hR8.x)
                  | (go_at_call 9; (with_reducible refine (num_errB a pb hpb _ (HE.out.below hR8.t.below)).mono ?_); rintro e w9 ⟨rfl, hbhR9⟩; have hR9 := hR8.past hbhR9; clear hbhR9; obtain ⟨khR9, ahR9, bhR9, nhR9⟩ := hR9.x)
                  | (go_at_call 16; refine (cAR _ _ hR9.t.a).mono ?_; rintro e w10 ⟨rfl, hb10⟩; have hR10 := hR9.past hb10; clear hb10 cAR)
                  | (go_at_call 17; refine (cAD _ _ _ hR10.t.b).mono ?_; rintro e w11 ⟨rfl, hb11⟩; have hR11 := hR10.past hb11; clear hb11 cAD))
                have hEnd := Lib.hid hR11.t
                go_roundw
                case rel => exact ⟨j + 1, by omega, by simp, _, hEnd.out⟩
                case measure => simp [intOf]; omega
        · by_cases hi : 0 ≤ ca ∧ ca < (m : Int)
          ·
            as_aux_lemma =>
              -- NO_Y
              obtain ⟨i, rfl⟩ := Int.eq_ofNat_of_zero_le hi.1
              have him : i < m := Int.ofNat_lt.1 hi.2
              have hi2 : (i : Int) < (m : Int) := hi.2
              have q5 : ((ck : Int) == 0) = false := by simpa using hk
              have q6 : ((ck : Int) == 1) = false := by simpa using hk1
              have cEnt := fun W (hW : DAt A d f W) => entry_yes A d f W hW i (hm ▸ him)
              have cVal := fun W (hW : RAt B g d f W) => hW.ent i (hm ▸ him)
              obtain ⟨pk, pl, pb, hpb, cSR, cSD⟩ := span_both d hd (i : Int) cb (a "ambler/api.ErrRange")
              obtain ⟨av, cAR, cAD⟩ := at_both d hd f n hn
              have rw0 := cRow _ _ hR.t.b
              clear hi
              obtain ⟨xk, xa, xb, xn⟩ := hR.x
              go_quiet (fail)
              have hR1 := hR.past (drewN_below W0 nq)
              generalize W0.drewN nq = W1 at hR1 ⊢
              clear xk xa xb xn rw0 hR
              obtain ⟨xk, xa, xb, xn⟩ := hR1.x
              go_wp2_with (first
                | (go_at_call 13; refine (cEnt _ hR1.t.a).mono ?_; rintro e w20 ⟨rfl, rfl⟩; have rw20 := cRow _ _ hR1.t.b; have v20 := cVal _ hR1.t.b))
              clear cEnt cVal
              go_quiet (fail)
              have hR5 := hR1.past (drewN_below _ nq)
              generalize World.drewN _ nq = W5 at hR5 ⊢
              obtain ⟨khR5, ahR5, bhR5, nhR5⟩ := hR5.x
              -- tail
              go_wp2_with (first
                | (go_at_call 14; refine (cSR _ _ _ hR5.t.a ((HE.out.below hR5.t.below).at gErrRange (nm_mem (i := 0) (by decide)))).mono ?_; rintro e w6 ⟨rfl, hb6⟩; have hR6 := hR5.past hb6; clear hb6 cSR; obtain ⟨khR6, ahR6, bhR6, nhR6⟩ := hR6.x)
                | (go_at_call 15; refine (cSD _ _ _ _ hR6.t.b).mono ?_; rintro e w7 ⟨rfl, hb7⟩; have hR7 := hR6.past hb7; clear hb7 cSD; obtain ⟨khR7, ahR7, bhR7, nhR7⟩ := hR7.x)
                | (go_at_call 9; (with_reducible refine (num_nil _).mono ?_); rintro e w8 ⟨rfl, rfl⟩; have hR8 := hR7)
                | (go_at_call 9; (with_reducible refine (num_errB a pb hpb _ (HE.out.below hR8.t.below)).mono ?_); rintro e w9 ⟨rfl, hbhR9⟩; have hR9 := hR8.past hbhR9; clear hbhR9; obtain ⟨khR9, ahR9, bhR9, nhR9⟩ := hR9.x)
                | (go_at_call 16; refine (cAR _ _ hR9.t.a).mono ?_; rintro e w10 ⟨rfl, hb10⟩; have hR10 := hR9.past hb10; clear hb10 cAR)
                | (go_at_call 17; refine (cAD _ _ _ hR10.t.b).mono ?_; rintro e w11 ⟨rfl, hb11⟩; have hR11 := hR10.past hb11; clear hb11 cAD))
              have hEnd := Lib.hid hR11.t
              go_roundw
              case rel => exact ⟨j + 1, by omega, by simp, _, hEnd.out⟩
              case measure => simp [intOf]; omega
          · by_cases hi0 : ca < 0
            ·
              as_aux_lemma =>
                -- NO_N
                have q1 : decide ((0 : Int) ≤ ca) = false := decide_eq_false (by omega)
                have q5 : ((ck : Int) == 0) = false := by simpa using hk
                have q6 : ((ck : Int) == 1) = false := by simpa using hk1
                have cEnt := fun W (hW : DAt A d f W) hr => entry_no A d f W hW ca (by rw [hm]; omega) (errV (a "ambler/api.ErrRange")) hr
                obtain ⟨pk, pl, pb, hpb, cSR, cSD⟩ := span_both d hd ca cb (a "ambler/api.ErrRange")
                obtain ⟨av, cAR, cAD⟩ := at_both d hd f n hn
                have rw0 := cRow _ _ hR.t.b
                clear hi
                obtain ⟨xk, xa, xb, xn⟩ := hR.x
                go_quiet (fail)
                have hR1 := hR.past (drewN_below W0 nq)
                generalize W0.drewN nq = W1 at hR1 ⊢
                clear xk xa xb xn rw0 hR
                obtain ⟨xk, xa, xb, xn⟩ := hR1.x
                -- tail
                go_wp2_with (first
                  | (go_at_call 13; refine (cEnt _ hR1.t.a ((HE.out.below hR1.t.below).at gErrRange (nm_mem (i := 0) (by decide)))).mono ?_; rintro e w20 ⟨rfl, q20, rfl⟩; have hR5 := hR1.past (drewN_below _ q20); clear cEnt; obtain ⟨khR5, ahR5, bhR5, nhR5⟩ := hR5.x)
                  | (go_at_call 14; refine (cSR _ _ _ hR5.t.a ((HE.out.below hR5.t.below).at gErrRange (nm_mem (i := 0) (by decide)))).mono ?_; rintro e w6 ⟨rfl, hb6⟩; have hR6 := hR5.past hb6; clear hb6 cSR; obtain ⟨khR6, ahR6, bhR6, nhR6⟩ := hR6.x)
                  | (go_at_call 15; refine (cSD _ _ _ _ hR6.t.b).mono ?_; rintro e w7 ⟨rfl, hb7⟩; have hR7 := hR6.past hb7; clear hb7 cSD; obtain ⟨khR7, ahR7, bhR7, nhR7⟩ := hR7.x)
                  | (go_at_call 9; (with_reducible refine (num_range a _ (HE.out.below hR7.t.below)).mono ?_); rintro e w8 ⟨rfl, hbhR8⟩; have hR8 := hR7.past hbhR8; clear hbhR8; obtain ⟨khR8, ahR8, bhR8, nhR8⟩ := hR8.x)
                  | (go_at_call 9; (with_reducible refine (num_errB a pb hpb _ (HE.out.below hR8.t.below)).mono ?_); rintro e w9 ⟨rfl, hbhR9⟩; have hR9 := hR8.past hbhR9; clear hbhR9; obtain ⟨khR9, ahR9, bhR9, nhR9⟩ := hR9.x)
                  | (go_at_call 16; refine (cAR _ _ hR9.t.a).mono ?_; rintro e w10 ⟨rfl, hb10⟩; have hR10 := hR9.past hb10; clear hb10 cAR)
                  | (go_at_call 17; refine (cAD _ _ _ hR10.t.b).mono ?_; rintro e w11 ⟨rfl, hb11⟩; have hR11 := hR10.past hb11; clear hb11 cAD))
                have hEnd := Lib.hid hR11.t
                go_roundw
                case rel => exact ⟨j + 1, by omega, by simp, _, hEnd.out⟩
                case measure => simp [intOf]; omega
            ·
              as_aux_lemma =>
                -- NO_B
                have q1 : decide ((0 : Int) ≤ ca) = true := decide_eq_true (by omega)
                have q2 : decide (ca < (m : Int)) = false := decide_eq_false (by omega)
                have q5 : ((ck : Int) == 0) = false := by simpa using hk
                have q6 : ((ck : Int) == 1) = false := by simpa using hk1
                have cEnt := fun W (hW : DAt A d f W) hr => entry_no A d f W hW ca (by rw [hm]; omega) (errV (a "ambler/api.ErrRange")) hr
                obtain ⟨pk, pl, pb, hpb, cSR, cSD⟩ := span_both d hd ca cb (a "ambler/api.ErrRange")
                obtain ⟨av, cAR, cAD⟩ := at_both d hd f n hn
                have rw0 := cRow _ _ hR.t.b
                clear hi
                obtain ⟨xk, xa, xb, xn⟩ := hR.x
                go_quiet (fail)
                have hR1 := hR.past (drewN_below W0 nq)
                generalize W0.drewN nq = W1 at hR1 ⊢
                clear xk xa xb xn rw0 hR
                obtain ⟨xk, xa, xb, xn⟩ := hR1.x
                -- tail
                go_wp2_with (first
                  | (go_at_call 13; refine (cEnt _ hR1.t.a ((HE.out.below hR1.t.below).at gErrRange (nm_mem (i := 0) (by decide)))).mono ?_; rintro e w20 ⟨rfl, q20, rfl⟩; have hR5 := hR1.past (drewN_below _ q20); clear cEnt; obtain ⟨khR5, ahR5, bhR5, nhR5⟩ := hR5.x)
                  | (go_at_call 14; refine (cSR _ _ _ hR5.t.a ((HE.out.below hR5.t.below).at gErrRange (nm_mem (i := 0) (by decide)))).mono ?_; rintro e w6 ⟨rfl, hb6⟩; have hR6 := hR5.past hb6; clear hb6 cSR; obtain ⟨khR6, ahR6, bhR6, nhR6⟩ := hR6.x)
                  | (go_at_call 15; refine (cSD _ _ _ _ hR6.t.b).mono ?_; rintro e w7 ⟨rfl, hb7⟩; have hR7 := hR6.past hb7; clear hb7 cSD; obtain ⟨khR7, ahR7, bhR7, nhR7⟩ := hR7.x)
                  | (go_at_call 9; (with_reducible refine (num_range a _ (HE.out.below hR7.t.below)).mono ?_); rintro e w8 ⟨rfl, hbhR8⟩; have hR8 := hR7.past hbhR8; clear hbhR8; obtain ⟨khR8, ahR8, bhR8, nhR8⟩ := hR8.x)
                  | (go_at_call 9; (with_reducible refine (num_errB a pb hpb _ (HE.out.below hR8.t.below)).mono ?_); rintro e w9 ⟨rfl, hbhR9⟩; have hR9 := hR8.past hbhR9; clear hbhR9; obtain ⟨khR9, ahR9, bhR9, nhR9⟩ := hR9.x)
                  | (go_at_call 16; refine (cAR _ _ hR9.t.a).mono ?_; rintro e w10 ⟨rfl, hb10⟩; have hR10 := hR9.past hb10; clear hb10 cAR)
                  | (go_at_call 17; refine (cAD _ _ _ hR10.t.b).mono ?_; rintro e w11 ⟨rfl, hb11⟩; have hR11 := hR10.past hb11; clear hb11 cAD))
                have hEnd := Lib.hid hR11.t
                go_roundw
                case rel => exact ⟨j + 1, by omega, by simp, _, hEnd.out⟩
                case measure => simp [intOf]; omega
    · obtain rfl : j = la := by omega
      obtain ⟨m, hm⟩ : ∃ m, 2 ^ d = m := ⟨_, rfl⟩
      have hm32 := hm ▸ two_le d hd
      have hmp := hm ▸ two_pos d
      have cL := fun W (hW : DAt A d f W) => list_any A d f W hW
      have cRow := fun W (hW : RAt B g d f W) => hW.row
      have cEnt := fun W (hW : RAt B g d f W) => hW.ent
      have cN := fun W (hW : DAt A d f W) => len_any A d f W hW
      have cD := fun W (hW : DAt A d f W) => depth_any A d f W hW
      rw [hm] at cL cRow cEnt cN
      clear HA hm
      go_wp2_with (go_at_call 18; refine (cL _ hS.a).mono ?_; rintro e w5 ⟨G, c5, rfl, hg5, hl5, hc5, hf5, hb5⟩)
      have hP : Spoil G m A B g d f w w5 := ⟨hS.past hb5, fun k hk => ⟨_, hc5 k hk⟩, hf5, Nat.ne_of_lt (Nat.lt_of_lt_of_le hS.a.lt hg5), Nat.ne_of_lt (Nat.lt_of_lt_of_le hS.b.lt hg5), Nat.ne_of_lt (Nat.lt_of_lt_of_le hS.b.lg hg5), Nat.le_trans hS.below.size hg5⟩
      clear hc5 hf5 hb5 hg5 hl5 hS
      go_loopw [214] (fun i W => ∃ k : Nat, k ≤ m ∧ i = .int .i64 k ∧ Spoil G m A B g d f w W) (fun i _ => m - (intOf i).toNat)
      case atStart => exact ⟨0, by omega, rfl, hP⟩
      case round =>
        obtain ⟨k, hk, rfl, hP⟩ := hrel
        rcases Nat.lt_or_ge k m with hlt | hge
        · have hlt' : (k : Int) < (m : Int) := by omega
          obtain ⟨v, hv⟩ := hP.cell k hlt
          have hf := hP.fz k
          have hQ := Lib.hid (hP.store k (.int .i64 (-5)))
          clear hP cL cRow cEnt cN cD
          go_wp2
          go_roundw
          case rel => exact ⟨k + 1, by omega, by simp, hQ.out⟩
          case measure => simp [intOf]; omega
        · obtain rfl : k = m := by omega
          have hT := hP.t
          clear hP
          go_wp2_with fail
          have hr0 := cRow _ hT.b
          have CE := Lib.hid cEnt
          have CR := Lib.hid cRow
          clear cEnt cRow
          go_region_held3 (fun w' => Two A B g d f f w w' ∧ w'.cell? ⟨B, 1, none⟩ = some (.slice (some ⟨g, 0, none⟩) k k))
            (first | exact ⟨Two.past hT (under.drew_below _), hr0⟩ | exact ⟨Two.past (And.left (by assumption)) (under.drew_below _), And.right (by assumption)⟩ | exact ⟨Two.past (And.left (by assumption)) hbx, CR.out _ (Two.past (And.left (by assumption)) hbx).b⟩ | go_keep)
            (first
              | (go_at_call 19; refine Calls.mono (cD _ (Two.a (And.left (by assumption)))) ?_; rintro e w' ⟨rfl, rfl⟩)
              | (go_at_call 20; refine Calls.mono (cN _ (Two.a (And.left (by assumption)))) ?_; rintro e w' ⟨rfl, rfl⟩)
              | (go_at_call 18; refine Calls.mono (cL _ (Two.a (And.left (by assumption)))) ?_; rintro e w' ⟨G6, c6, rfl, hg6, hl6, hc6, hf6, hbx⟩)
              | (go_at_call 21; refine Calls.mono (same_fn f k G6 c6 g k _ (by omega) hc6 (CE.out _ (Two.b (And.left (by assumption))))) ?_; rintro e w' ⟨rfl, rfl⟩))
          have hT9 : Two A B g d f f w w' := (show Two A B g d f f w w' ∧ w'.cell? ⟨B, 1, none⟩ = some (.slice (some ⟨g, 0, none⟩) k k) by assumption).1
          have hB9 := Lib.hid hT9.below
          clear hT9 hT cL cN cD
          go_wp2
          go_ret
          exact ⟨rfl, hB9.out⟩
theorem acts_any (i : Int) (n : Nat) (hn : n < 18446744073709551616) (s : Option Addr) (la ca : Nat) (az : Nat → Ac) (w : World) (a : String → Addr) (hE : ErrsOk names a w) (hA : ActAt s la w az) :
    Calls Tryd.prog 3 #[.int .i64 i, .slice s la ca, .int .u64 n] w fun e w' => e = .returned (.bool true) ∧ Below w.heap.size w w' := by
  by_cases hl : 60 < la
  · exact acts_many i n s la ca hl w
  · by_cases hi : i < 0 ∨ 5 < i
    · exact acts_bad i hi n s la ca (by omega) w a hE
    · obtain ⟨d, rfl⟩ := Int.eq_ofNat_of_zero_le (show 0 ≤ i by omega)
      exact acts_good d n (by omega) hn s la ca az (by omega) w a hE hA
end Go.Proofs.YtdhflnfckjjibaaDoor.dir
