/- CtrlPaths: the walk. -/
import Derived.Test.YtfnfdofenaegpaaDoorCtrlAlive
import Derived.Test.YtfnfdofenaegpaaDoorCtrlMath2
import Derived.Test.YtfnfdofenaegpaaDoorNum
import Derived.OpenShut
namespace Go.Proofs.YtfnfdofenaegpaaDoor.ctrl
open Go.ChangeShapes Go.WideShapes Go.ChangeAt Go.RowKit swar errs

/-- a word's lanes in a block -/
def Row8 (m D : Nat) (W : World) : Prop := W.cell? ⟨D, 0, none⟩ = some (.int .u8 ((ln m 0 : Nat) : Int)) ∧ W.cell? ⟨D, 1, none⟩ = some (.int .u8 ((ln m 1 : Nat) : Int)) ∧ W.cell? ⟨D, 2, none⟩ = some (.int .u8 ((ln m 2 : Nat) : Int)) ∧ W.cell? ⟨D, 3, none⟩ = some (.int .u8 ((ln m 3 : Nat) : Int)) ∧ W.cell? ⟨D, 4, none⟩ = some (.int .u8 ((ln m 4 : Nat) : Int)) ∧ W.cell? ⟨D, 5, none⟩ = some (.int .u8 ((ln m 5 : Nat) : Int)) ∧ W.cell? ⟨D, 6, none⟩ = some (.int .u8 ((ln m 6 : Nat) : Int)) ∧ W.cell? ⟨D, 7, none⟩ = some (.int .u8 ((ln m 7 : Nat) : Int))
theorem Row8.below {m D : Nat} {W W' : World} (h : Row8 m D W) (hb : Below W.heap.size W W') (hD : D < W.heap.size) : Row8 m D W' := by
  obtain ⟨h0, h1, h2, h3, h4, h5, h6, h7⟩ := h
  exact ⟨(hb.cell (p := ⟨D, 0, none⟩) hD).trans h0, (hb.cell (p := ⟨D, 1, none⟩) hD).trans h1, (hb.cell (p := ⟨D, 2, none⟩) hD).trans h2, (hb.cell (p := ⟨D, 3, none⟩) hD).trans h3, (hb.cell (p := ⟨D, 4, none⟩) hD).trans h4, (hb.cell (p := ⟨D, 5, none⟩) hD).trans h5, (hb.cell (p := ⟨D, 6, none⟩) hD).trans h6, (hb.cell (p := ⟨D, 7, none⟩) hD).trans h7⟩
theorem Row8.drewN {m D : Nat} {W : World} (h : Row8 m D W) (q : Nat) : Row8 m D (W.drewN q) := h
theorem Row8.set {m D : Nat} {W : World} (k b : Nat) (h : Row8 m D W) (hk : k < 8) (hb : b < 256) : Row8 (withL m k b) D (W.setCell ⟨D, k, none⟩ (.int .u8 (b : Int))) := by
  obtain ⟨h0, h1, h2, h3, h4, h5, h6, h7⟩ := h
  have e := fun j hj => ln_withL_at m k b j hb hj
  unfold Row8
  rw [e 0 (by decide), e 1 (by decide), e 2 (by decide), e 3 (by decide), e 4 (by decide), e 5 (by decide), e 6 (by decide), e 7 (by decide)]
  rcases cases8 hk with rfl | rfl | rfl | rfl | rfl | rfl | rfl | rfl <;> simp [World.cell?_setCell_same', World.cell?_setCell_other, h0, h1, h2, h3, h4, h5, h6, h7]
/-- the state behind so many steps -/
structure PathOk (D m : Nat) (w W : World) : Prop where
  row : Row8 m D W
  ok : okW m = true
  lt : m < 18446744073709551616
  below : Below w.heap.size w W
  hB : w.heap.size ≤ D
  hD : D < W.heap.size
  fz : ∀ k, W.frozen? ⟨D, k, none⟩ = false
theorem PathOk.num {D m q : Nat} {w W W' : World} (h : PathOk D m w W) (hb : Below (W.drewN q).heap.size (W.drewN q) W') : PathOk D m w W' :=
  ⟨h.row.below (below_drewN hb) h.hD, h.ok, h.lt, below_step h.below (below_drewN hb), h.hB, Nat.lt_of_lt_of_le h.hD (below_drewN hb).size, fun k => ((below_drewN hb).frozen (p := ⟨D, k, none⟩) h.hD).trans (h.fz k)⟩
theorem PathOk.set {D m q : Nat} {w W : World} (k b : Nat) (h : PathOk D m w W) (hk : k < 8) (hb8 : b < 256) (hb : okB b = true) : PathOk D (withL m k b) w ((W.drewN q).setCell ⟨D, k, none⟩ (.int .u8 (b : Int))) :=
  ⟨(h.row.drewN q).set k b hk hb8, okW_with m k b h.ok hb8 hb, withL_lt m k b hb8, (below_step h.below (drewN_below W q)).setCell h.hB _, h.hB, by simpa using h.hD, fun j => by simpa using h.fz j⟩
set_option maxHeartbeats 2000000 in
set_option maxRecDepth 20000 in
theorem paths_go (pa pb : Option Addr) (la lb ca cb : Nat) (at_ : Nat → Int) (bb : Nat → Nat) (h40 : la ≤ 40) (hle : la ≤ lb) (w : World) (a : String → Addr) (hE : ∀ w', Below w.heap.size w w' → ErrsOk names a w')
    (hA : ∀ j, j < la → ∃ x y, pa = some x ∧ pb = some y ∧ bb j < 256 ∧ (∀ W, Below w.heap.size w W → W.cell? (x.add j) = some (.int .i64 (at_ j))) ∧ (∀ W, Below w.heap.size w W → W.cell? (y.add j) = some (.int .u8 (bb j : Int)))) :
    Calls Tryd.prog 6 #[.slice pa la ca, .slice pb lb cb] w fun e w' => e = .returned (.bool true) ∧ Below w.heap.size w w' := by
  have h1 : ¬ 40 < (la : Int) := by omega
  have h2 : ¬ (lb : Int) < (la : Int) := by omega
  go_enter Tryd.func6, Tryd.ntmps6
  go_wp2_with (first
    | (go_at_call 7; refine (alive_any _).mono ?_; rintro e w1 ⟨rfl, hb1⟩)
    | (go_at_call 26; refine (new_any _).mono ?_; rintro e w' ⟨rfl, rfl⟩))
  go_loopw [31, 5] (fun i s wr => ∃ j m : Nat, j ≤ la ∧ i = .int .i64 j ∧ s = .int .u64 m ∧ PathOk w1.heap.size m w wr) (fun i _ _ => la - (intOf i).toNat)
  case atStart =>
    refine ⟨0, 9259542123273814144, by omega, rfl, rfl, ⟨?_, by decide, by decide, hb1.alloc hb1.size _, hb1.size, by simp, by simp⟩⟩
    refine ⟨?_, ?_, ?_, ?_, ?_, ?_, ?_, ?_⟩ <;> simp <;> rfl
  case round =>
    obtain ⟨j, m, hj, rfl, rfl, hp⟩ := hrel
    rcases Nat.lt_or_ge j la with hjl | hjl
    · obtain ⟨x, y, rfl, rfl, hb8, hx, hy⟩ := hA j hjl
      have cx := hx _ hp.below
      have cy := hy _ hp.below
      have hji : (j : Int) < (la : Int) := by omega
      have hjb : (j : Int) < (lb : Int) := by omega
      have hw1 : j + 1 ≤ la := by omega
      have hms : (41 : Nat) - (j + 1) < 41 - j := by omega
      have hE1 := hE _ hp.below
      have hp' := Lib.hid hp
      clear hp hx hy hA
      by_cases hi0 : at_ j < 0
      · have er := hE1.at gErrRange (nm_mem (i := 0) (by decide))
        have d0 : decide (at_ j < 0) = true := decide_eq_true hi0
        go_wp2_with (first
          | (go_at_call 23; refine (set_range m (bb j) (at_ j) (.inl hi0) _ _ er).mono ?_; rintro e w2 ⟨rfl, q, rfl⟩)
          | (go_at_call 25; refine (num_at a 0 (by decide) _ (hE1.drewN q)).mono ?_; rintro e w4 ⟨rfl, hb4⟩))
        all_goals
          go_roundw
          case rel => exact ⟨j + 1, m, hw1, by simp, rfl, hp'.out.num hb4⟩
          case measure => simp [intOf]; omega
      · by_cases hi8 : 8 ≤ at_ j
        · have er := hE1.at gErrRange (nm_mem (i := 0) (by decide))
          have d0 : decide (at_ j < 0) = false := decide_eq_false hi0
          have d8 : decide (7 < at_ j) = true := decide_eq_true (by omega)
          go_wp2_with (first
            | (go_at_call 23; refine (set_range m (bb j) (at_ j) (.inr hi8) _ _ er).mono ?_; rintro e w2 ⟨rfl, q, rfl⟩)
            | (go_at_call 25; refine (num_at a 0 (by decide) _ (hE1.drewN q)).mono ?_; rintro e w4 ⟨rfl, hb4⟩))
          all_goals
            go_roundw
            case rel => exact ⟨j + 1, m, hw1, by simp, rfl, hp'.out.num hb4⟩
            case measure => simp [intOf]; omega
        · have hat : ∃ k : Nat, at_ j = k := Int.eq_ofNat_of_zero_le (by omega)
          obtain ⟨k, hk0⟩ := hat
          have hk : k < 8 := by omega
          rw [hk0] at cx
          have d0 : decide ((k : Int) < 0) = false := decide_eq_false (by omega)
          have d8 : decide (7 < (k : Int)) = false := decide_eq_false (by omega)
          clear hi0 hi8
          cases hb : okB (bb j)
          · have er := hE1.at gErrForm (nm_mem (i := 2) (by decide))
            go_wp2_with (first
              | (go_at_call 23; refine (set_form m (bb j) k hp'.out.lt hk hb _ _ er).mono ?_; rintro e w2 ⟨rfl, q, rfl⟩)
              | (go_at_call 25; refine (num_at a 2 (by decide) _ (hE1.drewN q)).mono ?_; rintro e w4 ⟨rfl, hb4⟩))
            all_goals
              go_roundw
              case rel => exact ⟨j + 1, m, hw1, by simp, rfl, hp'.out.num hb4⟩
              case measure => simp [intOf]; omega
          · have hrow := hp'.out.row
            have hfz := hp'.out.fz
            rcases cases8 hk with rfl | rfl | rfl | rfl | rfl | rfl | rfl | rfl
            all_goals
              obtain ⟨z0, z1, z2, z3, z4, z5, z6, z7⟩ := hrow
              go_wp2_with (go_at_call 23; refine (set_yes m (bb j) _ hp'.out.lt (by decide) hb _).mono ?_; rintro e w2 ⟨rfl, q, rfl⟩)
              go_roundw
              case rel => exact ⟨j + 1, _, hw1, by simp, rfl, hp'.out.set _ (bb j) (by decide) hb8 hb⟩
              case measure => simp [intOf]; omega
    · obtain rfl : j = la := by omega
      have hT : (textN m).size = 8 := rfl
      have hr := fun wx => right_any m hp.lt wx
      rw [hp.ok] at hr
      have hp' := Lib.hid hp
      clear hp
      go_wp2_with (first
        | (go_at_call 20; refine (text_any m hp'.out.lt _).mono ?_; rintro e w7 ⟨rfl, hb7⟩; obtain ⟨z0, z1, z2, z3, z4, z5, z6, z7⟩ := hp'.out.row.below hb7 hp'.out.hD)
        | (go_at_call 18; (with_reducible refine (hr _).mono ?_); rintro e w' ⟨rfl, rfl⟩))
      have i0 := fun wx => (idx8u (.int .u8 (ln m 0 : Nat)) (.int .u8 (ln m 1 : Nat)) (.int .u8 (ln m 2 : Nat)) (.int .u8 (ln m 3 : Nat)) (.int .u8 (ln m 4 : Nat)) (.int .u8 (ln m 5 : Nat)) (.int .u8 (ln m 6 : Nat)) (.int .u8 (ln m 7 : Nat)) wx).1
      have i1 := fun wx => (idx8u (.int .u8 (ln m 0 : Nat)) (.int .u8 (ln m 1 : Nat)) (.int .u8 (ln m 2 : Nat)) (.int .u8 (ln m 3 : Nat)) (.int .u8 (ln m 4 : Nat)) (.int .u8 (ln m 5 : Nat)) (.int .u8 (ln m 6 : Nat)) (.int .u8 (ln m 7 : Nat)) wx).2.1
      have i2 := fun wx => (idx8u (.int .u8 (ln m 0 : Nat)) (.int .u8 (ln m 1 : Nat)) (.int .u8 (ln m 2 : Nat)) (.int .u8 (ln m 3 : Nat)) (.int .u8 (ln m 4 : Nat)) (.int .u8 (ln m 5 : Nat)) (.int .u8 (ln m 6 : Nat)) (.int .u8 (ln m 7 : Nat)) wx).2.2.1
      have i3 := fun wx => (idx8u (.int .u8 (ln m 0 : Nat)) (.int .u8 (ln m 1 : Nat)) (.int .u8 (ln m 2 : Nat)) (.int .u8 (ln m 3 : Nat)) (.int .u8 (ln m 4 : Nat)) (.int .u8 (ln m 5 : Nat)) (.int .u8 (ln m 6 : Nat)) (.int .u8 (ln m 7 : Nat)) wx).2.2.2.1
      have i4 := fun wx => (idx8u (.int .u8 (ln m 0 : Nat)) (.int .u8 (ln m 1 : Nat)) (.int .u8 (ln m 2 : Nat)) (.int .u8 (ln m 3 : Nat)) (.int .u8 (ln m 4 : Nat)) (.int .u8 (ln m 5 : Nat)) (.int .u8 (ln m 6 : Nat)) (.int .u8 (ln m 7 : Nat)) wx).2.2.2.2.1
      have i5 := fun wx => (idx8u (.int .u8 (ln m 0 : Nat)) (.int .u8 (ln m 1 : Nat)) (.int .u8 (ln m 2 : Nat)) (.int .u8 (ln m 3 : Nat)) (.int .u8 (ln m 4 : Nat)) (.int .u8 (ln m 5 : Nat)) (.int .u8 (ln m 6 : Nat)) (.int .u8 (ln m 7 : Nat)) wx).2.2.2.2.2.1
      have i6 := fun wx => (idx8u (.int .u8 (ln m 0 : Nat)) (.int .u8 (ln m 1 : Nat)) (.int .u8 (ln m 2 : Nat)) (.int .u8 (ln m 3 : Nat)) (.int .u8 (ln m 4 : Nat)) (.int .u8 (ln m 5 : Nat)) (.int .u8 (ln m 6 : Nat)) (.int .u8 (ln m 7 : Nat)) wx).2.2.2.2.2.2.1
      have i7 := fun wx => (idx8u (.int .u8 (ln m 0 : Nat)) (.int .u8 (ln m 1 : Nat)) (.int .u8 (ln m 2 : Nat)) (.int .u8 (ln m 3 : Nat)) (.int .u8 (ln m 4 : Nat)) (.int .u8 (ln m 5 : Nat)) (.int .u8 (ln m 6 : Nat)) (.int .u8 (ln m 7 : Nat)) wx).2.2.2.2.2.2.2
      have hok := hp'.out.ok
      have hlt := hp'.out.lt
      have hfin : Below w.heap.size w w7 := below_step hp'.out.below hb7
      clear hA hE hp' hr hb7 z0 z1 z2 z3 z4 z5 z6 z7
      go_loopw [77] (fun i wx => ∃ k : Nat, k ≤ 8 ∧ i = .int .i64 k ∧ wx = w7) (fun i _ => 8 - (intOf i).toNat)
      case atStart => exact ⟨0, by omega, rfl, rfl⟩
      case round =>
        obtain ⟨k, hk, rfl, rfl⟩ := hrel
        rcases cases9 hk with rfl | rfl | rfl | rfl | rfl | rfl | rfl | rfl | rfl
        · have g0 : ∀ wx, Calls Tryd.prog 22 #[.int .u64 (m : Int), .int .i64 0] wx fun e w' => e = .returned (.int .u8 ((ln m 0 : Nat) : Int)) ∧ wx = w' := fun wx => get_yes m 0 hlt (by decide) wx
          have hz : 0 < (textN m).size := Nat.lt_of_lt_of_eq (by decide) hT.symm
          rcases (okB_iff _).1 (okW_at m 0 hok (by decide)) with h3 | h3 | h3
          · have e1 : (((ln m 0 : Nat) : Int) == 128) = false := by simp; omega
            have e2 : (((ln m 0 : Nat) : Int) == 254) = false := by simp; omega
            have e3 : sgB (ln m 0) = 35 := by unfold sgB; rw [if_pos h3]
            have et : (((textN m)[0].toNat : Int) != 35) = false := by
              show (((sgB (ln m 0)).toNat : Int) != 35) = false
              rw [e3]; rfl
            clear h3 e3
            go_wp2_with (go_at_call 22; refine (g0 _).mono ?_; rintro e w' ⟨rfl, rfl⟩)
            go_roundw
            case rel => exact ⟨1, by omega, by simp, trivial⟩
            case measure => simp [intOf]
          · have e1 : (((ln m 0 : Nat) : Int) == 128) = true := by simp; omega
            have e2 : (((ln m 0 : Nat) : Int) == 254) = false := by simp; omega
            have e3 : sgB (ln m 0) = 46 := by unfold sgB; rw [h3]; rfl
            have et : (((textN m)[0].toNat : Int) != 46) = false := by
              show (((sgB (ln m 0)).toNat : Int) != 46) = false
              rw [e3]; rfl
            clear h3 e3
            go_wp2_with (go_at_call 22; refine (g0 _).mono ?_; rintro e w' ⟨rfl, rfl⟩)
            go_roundw
            case rel => exact ⟨1, by omega, by simp, trivial⟩
            case measure => simp [intOf]
          · have e1 : (((ln m 0 : Nat) : Int) == 128) = false := by simp; omega
            have e2 : (((ln m 0 : Nat) : Int) == 254) = true := by simp; omega
            have e3 : sgB (ln m 0) = 120 := by unfold sgB; rw [h3]; rfl
            have et : (((textN m)[0].toNat : Int) != 120) = false := by
              show (((sgB (ln m 0)).toNat : Int) != 120) = false
              rw [e3]; rfl
            clear h3 e3
            go_wp2_with (go_at_call 22; refine (g0 _).mono ?_; rintro e w' ⟨rfl, rfl⟩)
            go_roundw
            case rel => exact ⟨1, by omega, by simp, trivial⟩
            case measure => simp [intOf]
        · have g0 : ∀ wx, Calls Tryd.prog 22 #[.int .u64 (m : Int), .int .i64 1] wx fun e w' => e = .returned (.int .u8 ((ln m 1 : Nat) : Int)) ∧ wx = w' := fun wx => get_yes m 1 hlt (by decide) wx
          have hz : 1 < (textN m).size := Nat.lt_of_lt_of_eq (by decide) hT.symm
          rcases (okB_iff _).1 (okW_at m 1 hok (by decide)) with h3 | h3 | h3
          · have e1 : (((ln m 1 : Nat) : Int) == 128) = false := by simp; omega
            have e2 : (((ln m 1 : Nat) : Int) == 254) = false := by simp; omega
            have e3 : sgB (ln m 1) = 35 := by unfold sgB; rw [if_pos h3]
            have et : (((textN m)[1].toNat : Int) != 35) = false := by
              show (((sgB (ln m 1)).toNat : Int) != 35) = false
              rw [e3]; rfl
            clear h3 e3
            go_wp2_with (go_at_call 22; refine (g0 _).mono ?_; rintro e w' ⟨rfl, rfl⟩)
            go_roundw
            case rel => exact ⟨2, by omega, by simp, trivial⟩
            case measure => simp [intOf]
          · have e1 : (((ln m 1 : Nat) : Int) == 128) = true := by simp; omega
            have e2 : (((ln m 1 : Nat) : Int) == 254) = false := by simp; omega
            have e3 : sgB (ln m 1) = 46 := by unfold sgB; rw [h3]; rfl
            have et : (((textN m)[1].toNat : Int) != 46) = false := by
              show (((sgB (ln m 1)).toNat : Int) != 46) = false
              rw [e3]; rfl
            clear h3 e3
            go_wp2_with (go_at_call 22; refine (g0 _).mono ?_; rintro e w' ⟨rfl, rfl⟩)
            go_roundw
            case rel => exact ⟨2, by omega, by simp, trivial⟩
            case measure => simp [intOf]
          · have e1 : (((ln m 1 : Nat) : Int) == 128) = false := by simp; omega
            have e2 : (((ln m 1 : Nat) : Int) == 254) = true := by simp; omega
            have e3 : sgB (ln m 1) = 120 := by unfold sgB; rw [h3]; rfl
            have et : (((textN m)[1].toNat : Int) != 120) = false := by
              show (((sgB (ln m 1)).toNat : Int) != 120) = false
              rw [e3]; rfl
            clear h3 e3
            go_wp2_with (go_at_call 22; refine (g0 _).mono ?_; rintro e w' ⟨rfl, rfl⟩)
            go_roundw
            case rel => exact ⟨2, by omega, by simp, trivial⟩
            case measure => simp [intOf]
        · have g0 : ∀ wx, Calls Tryd.prog 22 #[.int .u64 (m : Int), .int .i64 2] wx fun e w' => e = .returned (.int .u8 ((ln m 2 : Nat) : Int)) ∧ wx = w' := fun wx => get_yes m 2 hlt (by decide) wx
          have hz : 2 < (textN m).size := Nat.lt_of_lt_of_eq (by decide) hT.symm
          rcases (okB_iff _).1 (okW_at m 2 hok (by decide)) with h3 | h3 | h3
          · have e1 : (((ln m 2 : Nat) : Int) == 128) = false := by simp; omega
            have e2 : (((ln m 2 : Nat) : Int) == 254) = false := by simp; omega
            have e3 : sgB (ln m 2) = 35 := by unfold sgB; rw [if_pos h3]
            have et : (((textN m)[2].toNat : Int) != 35) = false := by
              show (((sgB (ln m 2)).toNat : Int) != 35) = false
              rw [e3]; rfl
            clear h3 e3
            go_wp2_with (go_at_call 22; refine (g0 _).mono ?_; rintro e w' ⟨rfl, rfl⟩)
            go_roundw
            case rel => exact ⟨3, by omega, by simp, trivial⟩
            case measure => simp [intOf]
          · have e1 : (((ln m 2 : Nat) : Int) == 128) = true := by simp; omega
            have e2 : (((ln m 2 : Nat) : Int) == 254) = false := by simp; omega
            have e3 : sgB (ln m 2) = 46 := by unfold sgB; rw [h3]; rfl
            have et : (((textN m)[2].toNat : Int) != 46) = false := by
              show (((sgB (ln m 2)).toNat : Int) != 46) = false
              rw [e3]; rfl
            clear h3 e3
            go_wp2_with (go_at_call 22; refine (g0 _).mono ?_; rintro e w' ⟨rfl, rfl⟩)
            go_roundw
            case rel => exact ⟨3, by omega, by simp, trivial⟩
            case measure => simp [intOf]
          · have e1 : (((ln m 2 : Nat) : Int) == 128) = false := by simp; omega
            have e2 : (((ln m 2 : Nat) : Int) == 254) = true := by simp; omega
            have e3 : sgB (ln m 2) = 120 := by unfold sgB; rw [h3]; rfl
            have et : (((textN m)[2].toNat : Int) != 120) = false := by
              show (((sgB (ln m 2)).toNat : Int) != 120) = false
              rw [e3]; rfl
            clear h3 e3
            go_wp2_with (go_at_call 22; refine (g0 _).mono ?_; rintro e w' ⟨rfl, rfl⟩)
            go_roundw
            case rel => exact ⟨3, by omega, by simp, trivial⟩
            case measure => simp [intOf]
        · have g0 : ∀ wx, Calls Tryd.prog 22 #[.int .u64 (m : Int), .int .i64 3] wx fun e w' => e = .returned (.int .u8 ((ln m 3 : Nat) : Int)) ∧ wx = w' := fun wx => get_yes m 3 hlt (by decide) wx
          have hz : 3 < (textN m).size := Nat.lt_of_lt_of_eq (by decide) hT.symm
          rcases (okB_iff _).1 (okW_at m 3 hok (by decide)) with h3 | h3 | h3
          · have e1 : (((ln m 3 : Nat) : Int) == 128) = false := by simp; omega
            have e2 : (((ln m 3 : Nat) : Int) == 254) = false := by simp; omega
            have e3 : sgB (ln m 3) = 35 := by unfold sgB; rw [if_pos h3]
            have et : (((textN m)[3].toNat : Int) != 35) = false := by
              show (((sgB (ln m 3)).toNat : Int) != 35) = false
              rw [e3]; rfl
            clear h3 e3
            go_wp2_with (go_at_call 22; refine (g0 _).mono ?_; rintro e w' ⟨rfl, rfl⟩)
            go_roundw
            case rel => exact ⟨4, by omega, by simp, trivial⟩
            case measure => simp [intOf]
          · have e1 : (((ln m 3 : Nat) : Int) == 128) = true := by simp; omega
            have e2 : (((ln m 3 : Nat) : Int) == 254) = false := by simp; omega
            have e3 : sgB (ln m 3) = 46 := by unfold sgB; rw [h3]; rfl
            have et : (((textN m)[3].toNat : Int) != 46) = false := by
              show (((sgB (ln m 3)).toNat : Int) != 46) = false
              rw [e3]; rfl
            clear h3 e3
            go_wp2_with (go_at_call 22; refine (g0 _).mono ?_; rintro e w' ⟨rfl, rfl⟩)
            go_roundw
            case rel => exact ⟨4, by omega, by simp, trivial⟩
            case measure => simp [intOf]
          · have e1 : (((ln m 3 : Nat) : Int) == 128) = false := by simp; omega
            have e2 : (((ln m 3 : Nat) : Int) == 254) = true := by simp; omega
            have e3 : sgB (ln m 3) = 120 := by unfold sgB; rw [h3]; rfl
            have et : (((textN m)[3].toNat : Int) != 120) = false := by
              show (((sgB (ln m 3)).toNat : Int) != 120) = false
              rw [e3]; rfl
            clear h3 e3
            go_wp2_with (go_at_call 22; refine (g0 _).mono ?_; rintro e w' ⟨rfl, rfl⟩)
            go_roundw
            case rel => exact ⟨4, by omega, by simp, trivial⟩
            case measure => simp [intOf]
        · have g0 : ∀ wx, Calls Tryd.prog 22 #[.int .u64 (m : Int), .int .i64 4] wx fun e w' => e = .returned (.int .u8 ((ln m 4 : Nat) : Int)) ∧ wx = w' := fun wx => get_yes m 4 hlt (by decide) wx
          have hz : 4 < (textN m).size := Nat.lt_of_lt_of_eq (by decide) hT.symm
          rcases (okB_iff _).1 (okW_at m 4 hok (by decide)) with h3 | h3 | h3
          · have e1 : (((ln m 4 : Nat) : Int) == 128) = false := by simp; omega
            have e2 : (((ln m 4 : Nat) : Int) == 254) = false := by simp; omega
            have e3 : sgB (ln m 4) = 35 := by unfold sgB; rw [if_pos h3]
            have et : (((textN m)[4].toNat : Int) != 35) = false := by
              show (((sgB (ln m 4)).toNat : Int) != 35) = false
              rw [e3]; rfl
            clear h3 e3
            go_wp2_with (go_at_call 22; refine (g0 _).mono ?_; rintro e w' ⟨rfl, rfl⟩)
            go_roundw
            case rel => exact ⟨5, by omega, by simp, trivial⟩
            case measure => simp [intOf]
          · have e1 : (((ln m 4 : Nat) : Int) == 128) = true := by simp; omega
            have e2 : (((ln m 4 : Nat) : Int) == 254) = false := by simp; omega
            have e3 : sgB (ln m 4) = 46 := by unfold sgB; rw [h3]; rfl
            have et : (((textN m)[4].toNat : Int) != 46) = false := by
              show (((sgB (ln m 4)).toNat : Int) != 46) = false
              rw [e3]; rfl
            clear h3 e3
            go_wp2_with (go_at_call 22; refine (g0 _).mono ?_; rintro e w' ⟨rfl, rfl⟩)
            go_roundw
            case rel => exact ⟨5, by omega, by simp, trivial⟩
            case measure => simp [intOf]
          · have e1 : (((ln m 4 : Nat) : Int) == 128) = false := by simp; omega
            have e2 : (((ln m 4 : Nat) : Int) == 254) = true := by simp; omega
            have e3 : sgB (ln m 4) = 120 := by unfold sgB; rw [h3]; rfl
            have et : (((textN m)[4].toNat : Int) != 120) = false := by
              show (((sgB (ln m 4)).toNat : Int) != 120) = false
              rw [e3]; rfl
            clear h3 e3
            go_wp2_with (go_at_call 22; refine (g0 _).mono ?_; rintro e w' ⟨rfl, rfl⟩)
            go_roundw
            case rel => exact ⟨5, by omega, by simp, trivial⟩
            case measure => simp [intOf]
        · have g0 : ∀ wx, Calls Tryd.prog 22 #[.int .u64 (m : Int), .int .i64 5] wx fun e w' => e = .returned (.int .u8 ((ln m 5 : Nat) : Int)) ∧ wx = w' := fun wx => get_yes m 5 hlt (by decide) wx
          have hz : 5 < (textN m).size := Nat.lt_of_lt_of_eq (by decide) hT.symm
          rcases (okB_iff _).1 (okW_at m 5 hok (by decide)) with h3 | h3 | h3
          · have e1 : (((ln m 5 : Nat) : Int) == 128) = false := by simp; omega
            have e2 : (((ln m 5 : Nat) : Int) == 254) = false := by simp; omega
            have e3 : sgB (ln m 5) = 35 := by unfold sgB; rw [if_pos h3]
            have et : (((textN m)[5].toNat : Int) != 35) = false := by
              show (((sgB (ln m 5)).toNat : Int) != 35) = false
              rw [e3]; rfl
            clear h3 e3
            go_wp2_with (go_at_call 22; refine (g0 _).mono ?_; rintro e w' ⟨rfl, rfl⟩)
            go_roundw
            case rel => exact ⟨6, by omega, by simp, trivial⟩
            case measure => simp [intOf]
          · have e1 : (((ln m 5 : Nat) : Int) == 128) = true := by simp; omega
            have e2 : (((ln m 5 : Nat) : Int) == 254) = false := by simp; omega
            have e3 : sgB (ln m 5) = 46 := by unfold sgB; rw [h3]; rfl
            have et : (((textN m)[5].toNat : Int) != 46) = false := by
              show (((sgB (ln m 5)).toNat : Int) != 46) = false
              rw [e3]; rfl
            clear h3 e3
            go_wp2_with (go_at_call 22; refine (g0 _).mono ?_; rintro e w' ⟨rfl, rfl⟩)
            go_roundw
            case rel => exact ⟨6, by omega, by simp, trivial⟩
            case measure => simp [intOf]
          · have e1 : (((ln m 5 : Nat) : Int) == 128) = false := by simp; omega
            have e2 : (((ln m 5 : Nat) : Int) == 254) = true := by simp; omega
            have e3 : sgB (ln m 5) = 120 := by unfold sgB; rw [h3]; rfl
            have et : (((textN m)[5].toNat : Int) != 120) = false := by
              show (((sgB (ln m 5)).toNat : Int) != 120) = false
              rw [e3]; rfl
            clear h3 e3
            go_wp2_with (go_at_call 22; refine (g0 _).mono ?_; rintro e w' ⟨rfl, rfl⟩)
            go_roundw
            case rel => exact ⟨6, by omega, by simp, trivial⟩
            case measure => simp [intOf]
        · have g0 : ∀ wx, Calls Tryd.prog 22 #[.int .u64 (m : Int), .int .i64 6] wx fun e w' => e = .returned (.int .u8 ((ln m 6 : Nat) : Int)) ∧ wx = w' := fun wx => get_yes m 6 hlt (by decide) wx
          have hz : 6 < (textN m).size := Nat.lt_of_lt_of_eq (by decide) hT.symm
          rcases (okB_iff _).1 (okW_at m 6 hok (by decide)) with h3 | h3 | h3
          · have e1 : (((ln m 6 : Nat) : Int) == 128) = false := by simp; omega
            have e2 : (((ln m 6 : Nat) : Int) == 254) = false := by simp; omega
            have e3 : sgB (ln m 6) = 35 := by unfold sgB; rw [if_pos h3]
            have et : (((textN m)[6].toNat : Int) != 35) = false := by
              show (((sgB (ln m 6)).toNat : Int) != 35) = false
              rw [e3]; rfl
            clear h3 e3
            go_wp2_with (go_at_call 22; refine (g0 _).mono ?_; rintro e w' ⟨rfl, rfl⟩)
            go_roundw
            case rel => exact ⟨7, by omega, by simp, trivial⟩
            case measure => simp [intOf]
          · have e1 : (((ln m 6 : Nat) : Int) == 128) = true := by simp; omega
            have e2 : (((ln m 6 : Nat) : Int) == 254) = false := by simp; omega
            have e3 : sgB (ln m 6) = 46 := by unfold sgB; rw [h3]; rfl
            have et : (((textN m)[6].toNat : Int) != 46) = false := by
              show (((sgB (ln m 6)).toNat : Int) != 46) = false
              rw [e3]; rfl
            clear h3 e3
            go_wp2_with (go_at_call 22; refine (g0 _).mono ?_; rintro e w' ⟨rfl, rfl⟩)
            go_roundw
            case rel => exact ⟨7, by omega, by simp, trivial⟩
            case measure => simp [intOf]
          · have e1 : (((ln m 6 : Nat) : Int) == 128) = false := by simp; omega
            have e2 : (((ln m 6 : Nat) : Int) == 254) = true := by simp; omega
            have e3 : sgB (ln m 6) = 120 := by unfold sgB; rw [h3]; rfl
            have et : (((textN m)[6].toNat : Int) != 120) = false := by
              show (((sgB (ln m 6)).toNat : Int) != 120) = false
              rw [e3]; rfl
            clear h3 e3
            go_wp2_with (go_at_call 22; refine (g0 _).mono ?_; rintro e w' ⟨rfl, rfl⟩)
            go_roundw
            case rel => exact ⟨7, by omega, by simp, trivial⟩
            case measure => simp [intOf]
        · have g0 : ∀ wx, Calls Tryd.prog 22 #[.int .u64 (m : Int), .int .i64 7] wx fun e w' => e = .returned (.int .u8 ((ln m 7 : Nat) : Int)) ∧ wx = w' := fun wx => get_yes m 7 hlt (by decide) wx
          have hz : 7 < (textN m).size := Nat.lt_of_lt_of_eq (by decide) hT.symm
          rcases (okB_iff _).1 (okW_at m 7 hok (by decide)) with h3 | h3 | h3
          · have e1 : (((ln m 7 : Nat) : Int) == 128) = false := by simp; omega
            have e2 : (((ln m 7 : Nat) : Int) == 254) = false := by simp; omega
            have e3 : sgB (ln m 7) = 35 := by unfold sgB; rw [if_pos h3]
            have et : (((textN m)[7].toNat : Int) != 35) = false := by
              show (((sgB (ln m 7)).toNat : Int) != 35) = false
              rw [e3]; rfl
            clear h3 e3
            go_wp2_with (go_at_call 22; refine (g0 _).mono ?_; rintro e w' ⟨rfl, rfl⟩)
            go_roundw
            case rel => exact ⟨8, by omega, by simp, trivial⟩
            case measure => simp [intOf]
          · have e1 : (((ln m 7 : Nat) : Int) == 128) = true := by simp; omega
            have e2 : (((ln m 7 : Nat) : Int) == 254) = false := by simp; omega
            have e3 : sgB (ln m 7) = 46 := by unfold sgB; rw [h3]; rfl
            have et : (((textN m)[7].toNat : Int) != 46) = false := by
              show (((sgB (ln m 7)).toNat : Int) != 46) = false
              rw [e3]; rfl
            clear h3 e3
            go_wp2_with (go_at_call 22; refine (g0 _).mono ?_; rintro e w' ⟨rfl, rfl⟩)
            go_roundw
            case rel => exact ⟨8, by omega, by simp, trivial⟩
            case measure => simp [intOf]
          · have e1 : (((ln m 7 : Nat) : Int) == 128) = false := by simp; omega
            have e2 : (((ln m 7 : Nat) : Int) == 254) = true := by simp; omega
            have e3 : sgB (ln m 7) = 120 := by unfold sgB; rw [h3]; rfl
            have et : (((textN m)[7].toNat : Int) != 120) = false := by
              show (((sgB (ln m 7)).toNat : Int) != 120) = false
              rw [e3]; rfl
            clear h3 e3
            go_wp2_with (go_at_call 22; refine (g0 _).mono ?_; rintro e w' ⟨rfl, rfl⟩)
            go_roundw
            case rel => exact ⟨8, by omega, by simp, trivial⟩
            case measure => simp [intOf]
        · go_wp2
          go_ret
          exact ⟨rfl, hfin⟩
theorem paths_skip (pa pb : Option Addr) (la lb ca cb : Nat) (h : 40 < la ∨ lb < la) (w : World) :
    Calls Tryd.prog 6 #[.slice pa la ca, .slice pb lb cb] w fun e w' => e = .returned (.bool true) ∧ Below w.heap.size w w' := by
  by_cases h1 : 40 < la
  · have h1' : decide (40 < (la : Int)) = true := decide_eq_true (by omega)
    go_enter Tryd.func6, Tryd.ntmps6
    go_wp2_with (go_at_call 7; refine (alive_any _).mono ?_; rintro e w1 ⟨rfl, hb1⟩)
    all_goals (go_ret; exact ⟨rfl, hb1⟩)
  · have h1' : decide (40 < (la : Int)) = false := decide_eq_false (by omega)
    have h2 : decide ((lb : Int) < (la : Int)) = true := decide_eq_true (by omega)
    go_enter Tryd.func6, Tryd.ntmps6
    go_wp2_with (go_at_call 7; refine (alive_any _).mono ?_; rintro e w1 ⟨rfl, hb1⟩)
    all_goals (go_ret; exact ⟨rfl, hb1⟩)
theorem paths_any (pa pb : Option Addr) (la lb ca cb : Nat) (za zb : Nat → Int) (w : World) (a : String → Addr) (hE : ErrsOk names a w)
    (hA : ∀ j, j < la → ∃ x, pa = some x ∧ w.cell? (x.add j) = some (.int .i64 (za j)) ∧ (Lit.int .i64 (za j)).wf = true) (hB : ∀ j, j < lb → ∃ x, pb = some x ∧ w.cell? (x.add j) = some (.int .u8 (zb j)) ∧ (Lit.int .u8 (zb j)).wf = true) :
    Calls Tryd.prog 6 #[.slice pa la ca, .slice pb lb cb] w fun e w' => e = .returned (.bool true) ∧ Below w.heap.size w w' := by
  by_cases hs : 40 < la ∨ lb < la
  · exact paths_skip pa pb la lb ca cb hs w
  · refine paths_go pa pb la lb ca cb za (fun j => (zb j).toNat) (by omega) (by omega) w a (fun w' hb => hE.below hb) fun j hj => ?_
    obtain ⟨x, hx, cx, _⟩ := hA j hj
    obtain ⟨y, hy, cy, wy⟩ := hB j (by omega)
    have b1 := bounds_u8 wy
    have e : (((zb j).toNat : Nat) : Int) = zb j := by omega
    refine ⟨x, y, hx, hy, by omega, fun W hb => (hb.cell (World.block_lt_of_cell? w _ cx)).trans cx, fun W hb => ?_⟩
    rw [e]
    exact (hb.cell (World.block_lt_of_cell? w _ cy)).trans cy
end Go.Proofs.YtfnfdofenaegpaaDoor.ctrl
