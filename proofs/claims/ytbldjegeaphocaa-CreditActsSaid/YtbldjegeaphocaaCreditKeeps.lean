/- CreditKeeps: the walk. -/
import Derived.Test.YtbldjegeaphocaaCreditAlive
namespace Go.Proofs.Ytbldjegeaphocaa.credit
open Go.RowKit under trap flt
set_option linter.unusedSimpArgs false
set_option linter.unusedVariables false
attribute [local go_sem] run_store_f

theorem new_block (w : World) (o : Obj) : Below w.heap.size w (w.alloc o) := (Below.refl _ w).alloc (Nat.le_refl _) o
/-- behind j acts: what came in and what went out -/
structure KInv (j : Nat) (l : Lg) (i o : Int) : Prop where
  ok : l.Ok
  i0 : 0 ≤ i
  o0 : 0 ≤ o
  i1 : i ≤ 1099511627776 * j
  o1 : o ≤ 1099511627776 * j
  eq : i - o = l.b
theorem KInv.inn {j : Nat} {l l' : Lg} {i o d : Int} (h : KInv j l i o) (hok : l'.Ok) (h0 : 0 ≤ d) (h1 : d ≤ 1099511627776) (e : l'.b = l.b + d) : KInv (j + 1) l' (i + d) o := by
  obtain ⟨ok, i0, o0, i1, o1, eq⟩ := h
  exact ⟨hok, by omega, o0, by omega, by omega, by omega⟩
theorem KInv.out {j : Nat} {l l' : Lg} {i o d : Int} (h : KInv j l i o) (hok : l'.Ok) (h0 : 0 ≤ d) (h1 : d ≤ 1099511627776) (e : l'.b = l.b - d) : KInv (j + 1) l' i (o + d) := by
  obtain ⟨ok, i0, o0, i1, o1, eq⟩ := h
  exact ⟨hok, i0, by omega, by omega, by omega, by omega⟩
theorem KInv.stay {j : Nat} {l : Lg} {i o : Int} (h : KInv j l i o) : KInv (j + 1) l i o := by
  obtain ⟨ok, i0, o0, i1, o1, eq⟩ := h
  exact ⟨ok, i0, o0, by omega, by omega, eq⟩
/-- the state behind j acts -/
structure KeepOk (w : World) (B j : Nat) (l : Lg) (i o : Int) (W : World) : Prop where
  inv : KInv j l i o
  at' : LAt B 0 l W
  below : Below w.heap.size w W
theorem keeps_many (s : Option Addr) (la ca : Nat) (h60 : 60 < la) (w : World) :
    Calls Try.prog 5 #[.slice s la ca] w fun e w' => e = .returned (.bool true) ∧ Below w.heap.size w w' := by
  have hA := alive_any w
  have h1 : (60 : Int) < (la : Int) := by omega
  go_enter Try.func5, Try.ntmps5
  go_wp2_with (go_at_call 7; refine hA.mono ?_; rintro e w1 ⟨rfl, hb1⟩)
  go_ret
  exact ⟨rfl, hb1⟩
/-- an act's cells -/
def ActCells (s : Option Addr) (w : World) (j : Nat) (k n : Int) (f : Nat) : Prop :=
  (∃ x, s = some x ∧ ∀ W, Below w.heap.size w W → W.cell? (x.add (j * 3)) = some (.int .i64 k) ∧ W.cell? ⟨(x.add (j * 3)).block, (x.add (j * 3)).off + 1, none⟩ = some (.int .i64 n) ∧ W.cell? ⟨(x.add (j * 3)).block, (x.add (j * 3)).off + 2, none⟩ = some (.float .f64 f)) ∧
    -9223372036854775808 ≤ n ∧ n ≤ 9223372036854775807 ∧ f < 18446744073709551616
set_option maxHeartbeats 4000000 in
set_option maxRecDepth 100000 in
theorem keeps_few (s : Option Addr) (la ca : Nat) (kz nz : Nat → Int) (fz : Nat → Nat) (h60 : la ≤ 60) (w : World) (hA : ∀ j, j < la → ActCells s w j (kz j) (nz j) (fz j)) :
    Calls Try.prog 5 #[.slice s la ca] w fun e w' => e = .returned (.bool true) ∧ Below w.heap.size w w' := by
  have hAl := alive_any w
  have h1 : ¬ (60 : Int) < (la : Int) := by omega
  have HA := Lib.hid hA
  clear hA
  go_enter Try.func5, Try.ntmps5
  go_wp2_with (first
    | (go_at_call 7; refine hAl.mono ?_; rintro e w1 ⟨rfl, hb1⟩))
  have HS := Lib.hid (show KeepOk w w1.heap.size 0 Lg.zero 0 0 (w1.alloc (.cells #[.int .i64 0, .float .f64 0] 27)) from ⟨⟨Lg.zero_ok, by decide, by decide, by decide, by decide, rfl⟩, LAt.new _ _, below_step hb1 (new_block _ _)⟩)
  have HB := Lib.hid hb1.size
  clear hAl hb1
  generalize w1.alloc (.cells #[.int .i64 0, .float .f64 0] 27) = w2 at *
  generalize w1.heap.size = B at *
  go_loopw [4, 5, 17] (fun vi vo vj wr => ∃ (j : Nat) (l : Lg) (i o : Int), j ≤ la ∧ vi = .int .i64 i ∧ vo = .int .i64 o ∧ vj = .int .i64 j ∧ KeepOk w B j l i o wr) (fun vi vo vj _ => la - (intOf vj).toNat)
  case atStart => exact ⟨0, Lg.zero, 0, 0, by omega, rfl, rfl, rfl, HS.out⟩
  case round =>
    clear HS
    obtain ⟨j, l, i, o, hj, rfl, rfl, rfl, hp⟩ := hrel
    rcases Nat.lt_or_ge j la with hjl | hjl
    · obtain ⟨⟨x, rfl, hcs⟩, bn0, bn1, bf⟩ := HA.out j hjl
      obtain ⟨ck, cn, cf⟩ := hcs _ hp.below
      have hji : (j : Int) < (la : Int) := by omega
      have hw1 : j + 1 ≤ la := by omega
      have hj60 : j < 60 := by omega
      have hBl := hp.at'.lt
      have hx0 := World.block_lt_of_cell? wr _ ck
      generalize hgk : kz j = k at *
      generalize hgn : nz j = n at *
      generalize hgf : fz j = f at *
      clear hgk hgn hgf hcs
      have hnb := new_block wr (.cells #[.int .i64 k, .int .i64 n, .float .f64 f] 32)
      have HL := Lib.hid (hp.at'.below hnb)
      have HN := Lib.hid (below_step hp.below hnb)
      have HI0 := Lib.hid hp.inv
      have HW := Lib.hid hBl
      clear hp hnb hBl
      by_cases k0 : k = 0
      · subst k0
        have ha := dep_at n HI0.out.ok.b1
        go_wp2_with (first
          | (go_at_call 8; (with_reducible refine (deposit_any B 0 l HI0.out.ok n _ HL.out).mono ?_); rintro e wa ⟨rfl, s2⟩))
        have HI := Lib.hid (HI0.out.inn (HI0.out.ok.dep n) ha.1 (by have := HI0.out.ok.b0; omega) rfl)
        have eI : wrap64 (i + dep l.b n) = i + dep l.b n := IntWalk.wrap64_in _ (by have h1 := HI.out.i0; have h2 := HI.out.i1; have h3 := HI.out.o0; have h4 := HI.out.o1; omega)
        rw [eI]
        clear eI ha
        have HL2 := Lib.hid s2.at'
        have HN2 := Lib.hid (HN.out.trans (s2.past.below HN.out.size (by simpa using HB.out)))
        clear s2 HL HN HI0 ck cn cf
        generalize i + dep l.b n = I at *
        generalize hgO : o = O at *
        clear hgO
        generalize hgL : l.dep n = L at *
        clear hgL
        have hB0 := HI.out.ok.b0
        have hB1 := HI.out.ok.b1
        have d0 : decide (L.b < 0) = false := decide_eq_false (by omega)
        have d1 : decide (1099511627776 < L.b) = false := decide_eq_false (by omega)
        have r1 := ge_none (Nat.lt_trans HI.out.ok.r1 (by decide))
        have r2 := lt_one HI.out.ok.r1
        have e0 : wrap64 (I - O) = L.b := by have h := HI.out.eq; rw [IntWalk.wrap64_in _ (by omega), h]
        clear hB0 hB1
        go_wp2_with (first
          | (go_at_call 16; (with_reducible refine (balance_any B 0 L _ HL2.out).mono ?_); rintro e wb ⟨rfl, rfl⟩)
          | (go_at_call 17; (with_reducible refine (rest_any B 0 L _ HL2.out).mono ?_); rintro e wb ⟨rfl, rfl⟩))
        go_roundw
        case rel => exact ⟨j + 1, L, I, O, hw1, rfl, rfl, by simp, HI.out, HL2.out, HN2.out⟩
        case measure => simp [intOf]; omega
      have q0 : (k == 0) = false := by simp; omega
      by_cases k1 : k = 1
      · subst k1
        have ha := HI0.out.ok.earnN f
        go_wp2_with (first
          | (go_at_call 10; (with_reducible refine (earn_any B 0 l HI0.out.ok f bf _ HL.out).mono ?_); rintro e wa ⟨rfl, s2⟩))
        have HI := Lib.hid (HI0.out.inn (HI0.out.ok.earn f) ha.1 ha.2 (l.earn_b f))
        have eI : wrap64 (i + l.earnN f) = i + l.earnN f := IntWalk.wrap64_in _ (by have h1 := HI.out.i0; have h2 := HI.out.i1; have h3 := HI.out.o0; have h4 := HI.out.o1; omega)
        rw [eI]
        clear eI ha
        have HL2 := Lib.hid s2.at'
        have HN2 := Lib.hid (HN.out.trans (s2.past.below HN.out.size (by simpa using HB.out)))
        clear s2 HL HN HI0 ck cn cf
        generalize i + l.earnN f = I at *
        generalize hgO : o = O at *
        clear hgO
        generalize hgL : l.earn f = L at *
        clear hgL
        have hB0 := HI.out.ok.b0
        have hB1 := HI.out.ok.b1
        have d0 : decide (L.b < 0) = false := decide_eq_false (by omega)
        have d1 : decide (1099511627776 < L.b) = false := decide_eq_false (by omega)
        have r1 := ge_none (Nat.lt_trans HI.out.ok.r1 (by decide))
        have r2 := lt_one HI.out.ok.r1
        have e0 : wrap64 (I - O) = L.b := by have h := HI.out.eq; rw [IntWalk.wrap64_in _ (by omega), h]
        clear hB0 hB1
        go_wp2_with (first
          | (go_at_call 16; (with_reducible refine (balance_any B 0 L _ HL2.out).mono ?_); rintro e wb ⟨rfl, rfl⟩)
          | (go_at_call 17; (with_reducible refine (rest_any B 0 L _ HL2.out).mono ?_); rintro e wb ⟨rfl, rfl⟩))
        go_roundw
        case rel => exact ⟨j + 1, L, I, O, hw1, rfl, rfl, by simp, HI.out, HL2.out, HN2.out⟩
        case measure => simp [intOf]; omega
      have q1 : (k == 1) = false := by simp; omega
      by_cases k2 : k = 2
      · subst k2
        by_cases hs : 0 ≤ n ∧ n ≤ l.b
        · have ha := HI0.out.ok.b1
          have hc := (spend_any B 0 l HI0.out.ok n _ HL.out)
          rw [decide_eq_true hs] at hc
          have HC := Lib.hid hc
          clear hc
          have eS : l.spend n = ⟨l.b - n, l.r⟩ := by unfold Lg.spend; rw [if_pos hs]
          rw [eS] at HC
          have HO := Lib.hid (eS ▸ HI0.out.ok.spend n)
          clear eS
          go_wp2_with (fail)
          refine HC.out.mono ?_
          rintro e wa ⟨rfl, s2⟩
          have nd : wa.cell? ⟨wr.heap.size, 1, none⟩ = some (.int .i64 n) := s2.past.cell (by simp) (by simp; have := HW.out; omega)
          have HI := Lib.hid (HI0.out.out (d := n) HO.out hs.1 (by omega) rfl)
          have eI : wrap64 (o + n) = o + n := IntWalk.wrap64_in _ (by have h1 := HI.out.i0; have h2 := HI.out.i1; have h3 := HI.out.o0; have h4 := HI.out.o1; omega)
          clear ha
          have HL2 := Lib.hid s2.at'
          have HN2 := Lib.hid (HN.out.trans (s2.past.below HN.out.size (by simpa using HB.out)))
          clear s2 HL HN HI0 ck cn cf HC HO hs
          generalize hgO : o + n = O at HI
          have eO : wrap64 (o + n) = O := eI.trans hgO
          clear eI hgO
          generalize hgI : i = I at *
          clear hgI
          generalize hgL : (⟨l.b - n, l.r⟩ : Lg) = L at *
          clear hgL
          have hB0 := HI.out.ok.b0
          have hB1 := HI.out.ok.b1
          have d0 : decide (L.b < 0) = false := decide_eq_false (by omega)
          have d1 : decide (1099511627776 < L.b) = false := decide_eq_false (by omega)
          have r1 := ge_none (Nat.lt_trans HI.out.ok.r1 (by decide))
          have r2 := lt_one HI.out.ok.r1
          have e0 : wrap64 (I - O) = L.b := by have h := HI.out.eq; rw [IntWalk.wrap64_in _ (by omega), h]
          clear hB0 hB1
          go_wp2_with (first
            | (go_at_call 16; (with_reducible refine (balance_any B 0 L _ HL2.out).mono ?_); rintro e wb ⟨rfl, rfl⟩)
            | (go_at_call 17; (with_reducible refine (rest_any B 0 L _ HL2.out).mono ?_); rintro e wb ⟨rfl, rfl⟩))
          go_roundw
          case rel => exact ⟨j + 1, L, I, O, hw1, rfl, rfl, by simp, HI.out, HL2.out, HN2.out⟩
          case measure => simp [intOf]; omega
        · have hc := (spend_any B 0 l HI0.out.ok n _ HL.out)
          rw [decide_eq_false hs] at hc
          have HC := Lib.hid hc
          clear hc
          have eS : l.spend n = l := by unfold Lg.spend; rw [if_neg hs]
          rw [eS] at HC
          clear eS
          go_wp2_with (fail)
          refine HC.out.mono ?_
          rintro e wa ⟨rfl, s2⟩
          have HI := Lib.hid HI0.out.stay
          have HL2 := Lib.hid s2.at'
          have HN2 := Lib.hid (HN.out.trans (s2.past.below HN.out.size (by simpa using HB.out)))
          clear s2 HL HN HI0 ck cn cf HC hs
          generalize hgO : o = O at *
          generalize hgI : i = I at *
          clear hgI hgO
          generalize hgL : l = L at *
          clear hgL
          have hB0 := HI.out.ok.b0
          have hB1 := HI.out.ok.b1
          have d0 : decide (L.b < 0) = false := decide_eq_false (by omega)
          have d1 : decide (1099511627776 < L.b) = false := decide_eq_false (by omega)
          have r1 := ge_none (Nat.lt_trans HI.out.ok.r1 (by decide))
          have r2 := lt_one HI.out.ok.r1
          have e0 : wrap64 (I - O) = L.b := by have h := HI.out.eq; rw [IntWalk.wrap64_in _ (by omega), h]
          clear hB0 hB1
          go_wp2_with (first
            | (go_at_call 16; (with_reducible refine (balance_any B 0 L _ HL2.out).mono ?_); rintro e wb ⟨rfl, rfl⟩)
            | (go_at_call 17; (with_reducible refine (rest_any B 0 L _ HL2.out).mono ?_); rintro e wb ⟨rfl, rfl⟩))
          go_roundw
          case rel => exact ⟨j + 1, L, I, O, hw1, rfl, rfl, by simp, HI.out, HL2.out, HN2.out⟩
          case measure => simp [intOf]; omega
      have q2 : (k == 2) = false := by simp; omega
      by_cases k3 : k = 3
      · subst k3
        have ha := takes_at n HI0.out.ok.b0
        go_wp2_with (first
          | (go_at_call 13; (with_reducible refine (take_any B 0 l HI0.out.ok n _ HL.out).mono ?_); rintro e wa ⟨rfl, s2⟩))
        have HI := Lib.hid (HI0.out.out (HI0.out.ok.take n) ha.1 (by have := HI0.out.ok.b1; omega) rfl)
        have eI : wrap64 (o + takes l.b n) = o + takes l.b n := IntWalk.wrap64_in _ (by have h1 := HI.out.i0; have h2 := HI.out.i1; have h3 := HI.out.o0; have h4 := HI.out.o1; omega)
        rw [eI]
        clear eI ha
        have HL2 := Lib.hid s2.at'
        have HN2 := Lib.hid (HN.out.trans (s2.past.below HN.out.size (by simpa using HB.out)))
        clear s2 HL HN HI0 ck cn cf
        generalize o + takes l.b n = O at *
        generalize hgI : i = I at *
        clear hgI
        generalize hgL : l.take n = L at *
        clear hgL
        have hB0 := HI.out.ok.b0
        have hB1 := HI.out.ok.b1
        have d0 : decide (L.b < 0) = false := decide_eq_false (by omega)
        have d1 : decide (1099511627776 < L.b) = false := decide_eq_false (by omega)
        have r1 := ge_none (Nat.lt_trans HI.out.ok.r1 (by decide))
        have r2 := lt_one HI.out.ok.r1
        have e0 : wrap64 (I - O) = L.b := by have h := HI.out.eq; rw [IntWalk.wrap64_in _ (by omega), h]
        clear hB0 hB1
        go_wp2_with (first
          | (go_at_call 16; (with_reducible refine (balance_any B 0 L _ HL2.out).mono ?_); rintro e wb ⟨rfl, rfl⟩)
          | (go_at_call 17; (with_reducible refine (rest_any B 0 L _ HL2.out).mono ?_); rintro e wb ⟨rfl, rfl⟩))
        go_roundw
        case rel => exact ⟨j + 1, L, I, O, hw1, rfl, rfl, by simp, HI.out, HL2.out, HN2.out⟩
        case measure => simp [intOf]; omega
      have q3 : (k == 3) = false := by simp; omega
      by_cases k4 : k = 4
      · subst k4
        have ha := HI0.out.ok.b0
        go_wp2_with (first
          | (go_at_call 15; (with_reducible refine (drop_any B 0 l _ HL.out).mono ?_); rintro e wa ⟨rfl, s2⟩))
        have HI := Lib.hid (HI0.out.out (l' := Lg.zero) Lg.zero_ok ha HI0.out.ok.b1 (by show (0 : Int) = _; omega))
        have eI : wrap64 (o + l.b) = o + l.b := IntWalk.wrap64_in _ (by have h1 := HI.out.i0; have h2 := HI.out.i1; have h3 := HI.out.o0; have h4 := HI.out.o1; omega)
        rw [eI]
        clear eI ha
        have HL2 := Lib.hid s2.at'
        have HN2 := Lib.hid (HN.out.trans (s2.past.below HN.out.size (by simpa using HB.out)))
        clear s2 HL HN HI0 ck cn cf
        generalize o + l.b = O at *
        generalize hgI : i = I at *
        clear hgI
        generalize hgL : Lg.zero = L at *
        clear hgL
        have hB0 := HI.out.ok.b0
        have hB1 := HI.out.ok.b1
        have d0 : decide (L.b < 0) = false := decide_eq_false (by omega)
        have d1 : decide (1099511627776 < L.b) = false := decide_eq_false (by omega)
        have r1 := ge_none (Nat.lt_trans HI.out.ok.r1 (by decide))
        have r2 := lt_one HI.out.ok.r1
        have e0 : wrap64 (I - O) = L.b := by have h := HI.out.eq; rw [IntWalk.wrap64_in _ (by omega), h]
        clear hB0 hB1
        go_wp2_with (first
          | (go_at_call 16; (with_reducible refine (balance_any B 0 L _ HL2.out).mono ?_); rintro e wb ⟨rfl, rfl⟩)
          | (go_at_call 17; (with_reducible refine (rest_any B 0 L _ HL2.out).mono ?_); rintro e wb ⟨rfl, rfl⟩))
        go_roundw
        case rel => exact ⟨j + 1, L, I, O, hw1, rfl, rfl, by simp, HI.out, HL2.out, HN2.out⟩
        case measure => simp [intOf]; omega
      have q4 : (k == 4) = false := by simp; omega
      have HI := Lib.hid HI0.out.stay
      have HL2 := HL
      have HN2 := HN
      clear HL HN HI0
      generalize hgO : o = O at *
      generalize hgI : i = I at *
      clear hgI hgO
      generalize hgL : l = L at *
      clear hgL
      have hB0 := HI.out.ok.b0
      have hB1 := HI.out.ok.b1
      have d0 : decide (L.b < 0) = false := decide_eq_false (by omega)
      have d1 : decide (1099511627776 < L.b) = false := decide_eq_false (by omega)
      have r1 := ge_none (Nat.lt_trans HI.out.ok.r1 (by decide))
      have r2 := lt_one HI.out.ok.r1
      have e0 : wrap64 (I - O) = L.b := by have h := HI.out.eq; rw [IntWalk.wrap64_in _ (by omega), h]
      clear hB0 hB1
      go_wp2_with (first
        | (go_at_call 16; (with_reducible refine (balance_any B 0 L _ HL2.out).mono ?_); rintro e wb ⟨rfl, rfl⟩)
        | (go_at_call 17; (with_reducible refine (rest_any B 0 L _ HL2.out).mono ?_); rintro e wb ⟨rfl, rfl⟩))
      go_roundw
      case rel => exact ⟨j + 1, L, I, O, hw1, rfl, rfl, by simp, HI.out, HL2.out, HN2.out⟩
      case measure => simp [intOf]; omega
    · have hji : ¬ (j : Int) < (la : Int) := by omega
      have HN := Lib.hid hp.below
      clear hp
      go_wp2
      go_ret
      exact ⟨rfl, HN.out⟩
theorem keeps_any (s : Option Addr) (la ca : Nat) (kz nz : Nat → Int) (fz : Nat → Nat) (w : World) (hA : ∀ j, j < la → ActCells s w j (kz j) (nz j) (fz j)) :
    Calls Try.prog 5 #[.slice s la ca] w fun e w' => e = .returned (.bool true) ∧ Below w.heap.size w w' := by
  rcases Nat.lt_or_ge 60 la with h | h
  · exact keeps_many s la ca h w
  · exact keeps_few s la ca kz nz fz h w hA
end Go.Proofs.Ytbldjegeaphocaa.credit
