/- DirParts: the walk. -/
import Derived.Test.YtdhflnfckjjibaaDoorDir
namespace Go.Proofs.YtdhflnfckjjibaaDoor.dir
open Go.ChangeShapes Go.WideShapes Go.ChangeAt Go.RowKit split trap errs
set_option linter.unusedSimpArgs false
set_option linter.unusedVariables false

def exF : Nat → Nat := setF (fun _ => 0) 2 4 7
theorem below_past {B : Nat} {w x y : World} (h : Below w.heap.size w x) (hp : Past [B] x y) (hB : w.heap.size ≤ B) : Below w.heap.size w y :=
  h.trans (hp.below h.size (by simp; omega))
/-- the chapter's example -/
theorem alive_any (w : World) :
    Calls Tryd.prog 6 #[] w fun e w' => e = .returned (.bool true) ∧ Below w.heap.size w w' := by
  have cN := new_yes 2 (by decide) w
  have cS := fun W (hW : DAt w.heap.size 2 (fun _ => 0) W) => set_yes w.heap.size 2 (fun _ => 0) W hW 1 1 7 (by decide) (by decide)
  have cL := fun W (hW : DAt w.heap.size 2 exF W) => list_any w.heap.size 2 exF W hW
  rw [show fr 2 1 1 = 2 from rfl, show to 2 1 1 = 4 from rfl] at cS
  rw [show 2 ^ 2 = 4 from rfl] at cL
  have CS := Lib.hid cS
  have CL := Lib.hid cL
  clear cS cL
  go_enter Tryd.func6, Tryd.ntmps6
  go_wp2_with (first
    | (go_at_call 7; refine cN.mono ?_; rintro e w1 ⟨rfl, hd1, hb1⟩)
    | (go_at_call 10; refine (CS.out _ hd1).mono ?_; rintro e w2 ⟨rfl, hp2, hd2⟩)
    | (go_at_call 18; refine (CL.out _ hd2).mono ?_; rintro e w3 ⟨g, c, rfl, hg, hg2, hc, hf, hb3⟩))
  have hS := same_fn exF 4 g c w3.heap.size 4 (w3.alloc (.cells #[.int .i64 0, .int .i64 0, .int .i64 7, .int .i64 7] 3)) (by decide)
    (fun j hj => (((Below.refl w3.heap.size w3).alloc (Nat.le_refl _) _).cell (p := ⟨g, j, none⟩) hg2).trans (hc j hj))
    (fun j hj => by
      rw [cell_alloc_row]
      match j, hj with
      | 0, _ => rfl
      | 1, _ => rfl
      | 2, _ => rfl
      | 3, _ => rfl
      | j + 4, h => omega)
  have hB := Lib.hid (show Below w.heap.size w (w3.alloc (.cells #[.int .i64 0, .int .i64 0, .int .i64 7, .int .i64 7] 3)) from
    (under.below_step (below_past hb1 hp2 (Nat.le_refl _)) hb3).alloc (Nat.le_trans (below_past hb1 hp2 (Nat.le_refl _)).size hb3.size) _)
  with_reducible refine hS.mono ?_
  rintro e w' ⟨rfl, rfl⟩
  clear hS hc hf hd1 hd2 hp2 hb1 hb3 CS CL cN
  go_wp2
  go_ret
  exact ⟨rfl, hB.out⟩

/-- how many of the first k entries are from a to t -/
def cnt (a t k : Nat) : Nat := min k t - min k a
theorem cnt_zero (a t : Nat) : cnt a t 0 = 0 := by unfold cnt; omega
theorem cnt_in (a t k : Nat) (h : a ≤ k ∧ k < t) : cnt a t (k + 1) = cnt a t k + 1 := by unfold cnt; omega
theorem cnt_out (a t k : Nat) (hat : a ≤ t) (h : ¬ (a ≤ k ∧ k < t)) : cnt a t (k + 1) = cnt a t k := by unfold cnt; omega
theorem cnt_all (a t k : Nat) (hat : a ≤ t) (h : t ≤ k) : cnt a t k = t - a := by unfold cnt; omega
theorem cnt_le (a t k : Nat) : cnt a t k ≤ k := by unfold cnt; omega
/-- what a walk that only reads keeps -/
structure Keep (B d : Nat) (f : Nat → Nat) (w W : World) : Prop where
  dat : DAt B d f W
  below : Below w.heap.size w W
theorem Keep.drewN {B d : Nat} {f : Nat → Nat} {w W : World} (h : Keep B d f w W) (q : Nat) : Keep B d f w (W.drewN q) := ⟨h.dat.drewN q, h.below.trans ⟨rfl, rfl, rfl, Nat.le_refl _, fun _ _ => rfl⟩⟩
theorem fr_self (d k : Nat) : fr d k d = k := by unfold fr; rw [Nat.sub_self]; simp
theorem at_low (d k : Nat) (hd : d ≤ 5) : lowN k d / 2 ^ (64 - d) = k := by rw [low_div d k d (Nat.le_refl _) (by omega), fr_self]
theorem low_in (d k : Nat) (hd : d ≤ 5) (hk : k < 2 ^ d) : lowN k d < 18446744073709551616 := by
  have := lowN_lt k d (by omega) hk; omega
theorem fr_top (d e : Nat) (he : e ≤ d) : fr d (2 ^ e) e = 2 ^ d := by
  unfold fr; rw [← Nat.pow_add, show e + (d - e) = d by omega]
theorem to_fr (d k e : Nat) : to d k e = fr d (k + 1) e := rfl
theorem fr_zero (d e : Nat) : fr d 0 e = 0 := by unfold fr; omega
theorem parts_bad (i p e : Int) (hi : i < 0 ∨ 5 < i) (w : World) (a : String → Addr) (hE : ErrsOk ["ambler/api.ErrRange"] a w) :
    Calls Tryd.prog 4 #[.int .i64 i, .int .i64 p, .int .i64 e] w fun e w' => e = .returned (.bool true) ∧ Below w.heap.size w w' := by
  go_enter Tryd.func4, Tryd.ntmps4
  go_wp2_with (first
    | (go_at_call 6; refine (alive_any _).mono ?_; rintro e w1 ⟨rfl, hb1⟩)
    | (go_at_call 7; refine (new_no i hi _ _ ((hE.below hb1).at gErrRange (by simp))).mono ?_; rintro e w2 ⟨rfl, q, rfl⟩))
  go_ret
  exact ⟨rfl, below_drewN hb1 q⟩
set_option maxHeartbeats 2000000 in
theorem parts_no (d : Nat) (p i : Int) (hd : d ≤ 5) (hp : NoSpan d p i) (w : World) (a : String → Addr) (hE : ErrsOk ["ambler/api.ErrRange"] a w) :
    Calls Tryd.prog 4 #[.int .i64 d, .int .i64 p, .int .i64 i] w fun e w' => e = .returned (.bool true) ∧ Below w.heap.size w w' := by
  have h32 := two_le d hd
  have cLow := fun k hk W => low_yes k d (by omega) hk W
  have cLen := fun B f W (hW : DAt B d f W) => len_any B d f W hW
  have cIn := fun k hk => low_in d k hd hk
  have cTo := fun p e he hp => to_le d p e he hp
  have cTop := fun e (he : e ≤ d) => fr_top d e he
  generalize 2 ^ d = n at h32 cLow cLen cIn cTo cTop
  go_enter Tryd.func4, Tryd.ntmps4
  go_wp2_with (first
    | (go_at_call 6; refine (alive_any _).mono ?_; rintro e w1 ⟨rfl, hb1⟩)
    | (go_at_call 7; refine (new_yes d hd _).mono ?_; rintro e w2 ⟨rfl, hd2, hb2⟩)
    | (go_at_call 10; refine (set_no _ d _ _ hd2 p i 9 hp _ (((hE.below hb1).below hb2).at gErrRange (by simp))).mono ?_; rintro e w3 ⟨rfl, q3, rfl⟩)
    | (go_at_call 20; refine (cLen _ _ _ (hd2.drewN q3)).mono ?_; rintro e w4 ⟨rfl, rfl⟩))
  have hK : Keep w1.heap.size d (fun _ => 0) w (w2.drewN q3) := ⟨hd2.drewN q3, below_drewN (under.below_step hb1 hb2) q3⟩
  have hB : w.heap.size ≤ w1.heap.size := hb1.size
  generalize w2.drewN q3 = wK at hK
  generalize w1.heap.size = B at hK hB
  clear hb1 hb2 hd2 hE
  have cAt := fun k hk W (hW : DAt B d (fun _ => 0) W) => at_any B d (fun _ => 0) W hW (lowN k d) (cIn k hk)
  go_loopw [44] (fun i W => ∃ k : Nat, k ≤ n ∧ i = .int .i64 k ∧ Keep B d (fun _ => 0) w W) (fun i _ => n - (intOf i).toNat)
  case atStart => exact ⟨0, by omega, rfl, hK⟩
  case round =>
    obtain ⟨k, hk, rfl, hJ⟩ := hrel
    clear hK
    rcases Nat.lt_or_ge k n with hlt | hge
    · have hlt' : (k : Int) < (n : Int) := by omega
      have c1 := fun W => cLow k hlt W
      have c2 := fun W (hW : DAt B d (fun _ => 0) W) => cAt k hlt W hW
      clear cLow cAt
      generalize lowN k d = low at c1 c2
      go_wp2_with (first
        | (go_at_call 22; refine (c1 _).mono ?_; rintro e w' ⟨rfl, rfl⟩)
        | (go_at_call 16; refine (c2 _ hJ.dat).mono ?_; rintro e w' ⟨rfl, q5, rfl⟩))
      go_roundw
      case rel => exact ⟨k + 1, by omega, by simp, hJ.drewN q5⟩
      case measure => simp [intOf]; omega
    · obtain rfl : k = n := by omega
      clear cLow cAt
      go_wp2
      go_ret
      exact ⟨rfl, hJ.below⟩
set_option maxHeartbeats 4000000 in
theorem parts_yes (d p e : Nat) (hd : d ≤ 5) (he : e ≤ d) (hp : p < 2 ^ e) (w : World) :
    Calls Tryd.prog 4 #[.int .i64 d, .int .i64 p, .int .i64 e] w fun e w' => e = .returned (.bool true) ∧ Below w.heap.size w w' := by
  have h32 := two_le d hd
  have cLow := fun k hk W => low_yes k d (by omega) hk W
  have cLen := fun B f W (hW : DAt B d f W) => len_any B d f W hW
  have cIn := fun k hk => low_in d k hd hk
  have cTo := fun p e he hp => to_le d p e he hp
  have cTop := fun e (he : e ≤ d) => fr_top d e he
  generalize 2 ^ d = n at h32 cLow cLen cIn cTo cTop
  go_enter Tryd.func4, Tryd.ntmps4
  go_wp2_with (first
    | (go_at_call 6; refine (alive_any _).mono ?_; rintro e w1 ⟨rfl, hb1⟩)
    | (go_at_call 7; refine (new_yes d hd _).mono ?_; rintro e w2 ⟨rfl, hd2, hb2⟩)
    | (go_at_call 10; refine (set_yes _ d _ _ hd2 p e 9 he hp).mono ?_; rintro e w3 ⟨rfl, hp3, hd3⟩)
    | (go_at_call 20; refine (cLen _ _ _ hd3).mono ?_; rintro e w4 ⟨rfl, rfl⟩))
  have hB : w.heap.size ≤ w1.heap.size := hb1.size
  have hK : Keep w1.heap.size d (setF (fun _ => 0) (fr d p e) (to d p e) 9) w w3 := ⟨hd3, below_past (under.below_step hb1 hb2) hp3 hB⟩
  generalize w1.heap.size = B at hK hB
  clear hb1 hb2 hd2 hd3 hp3
  have cAt := fun k hk W (hW : DAt B d (setF (fun _ => 0) (fr d p e) (to d p e) 9) W) => at_any B d _ W hW (lowN k d) (cIn k hk)
  have cW := fun k hk W => within_yes (lowN k d) p e (cIn k hk) (by omega) hp W
  have hlt := fr_lt d p e
  have hle := cTo p e he hp
  go_loopw [44, 10] (fun i s W => ∃ k : Nat, k ≤ n ∧ i = .int .i64 k ∧ s = .int .i64 (cnt (fr d p e) (to d p e) k : Nat) ∧ Keep B d (setF (fun _ => 0) (fr d p e) (to d p e) 9) w W) (fun i _ _ => n - (intOf i).toNat)
  case atStart => exact ⟨0, by omega, rfl, by rw [cnt_zero]; rfl, hK⟩
  case round =>
    obtain ⟨k, hk, rfl, rfl, hJ⟩ := hrel
    clear hK
    rcases Nat.lt_or_ge k n with hkn | hge
    · have hkn' : (k : Int) < (n : Int) := by omega
      have c1 := fun W => cLow k hkn W
      have c2 := fun W (hW : DAt B d (setF (fun _ => 0) (fr d p e) (to d p e) 9) W) => cAt k hkn W hW
      have c3 := fun W => cW k hkn W
      rw [low_at d k e he (by omega)] at c3
      rw [at_low d k hd] at c2
      have hcl := cnt_le (fr d p e) (to d p e) k
      clear cLow cAt cW
      generalize lowN k d = low at c1 c2 c3
      by_cases hin : fr d p e ≤ k ∧ k < to d p e
      · have hv : setF (fun _ => 0) (fr d p e) (to d p e) 9 k = 9 := by unfold setF; rw [if_pos hin]
        rw [hv] at c2
        rw [decide_eq_true ((in_iff d p e k).2 hin)] at c3
        have hc := cnt_in _ _ _ hin
        have hc' := hc
        generalize cnt (fr d p e) (to d p e) k = x at hc hc' hcl
        have hw' : wrap64 ((x : Int) + 1) = ((x + 1 : Nat) : Int) := i64_nat (x + 1) (by omega)
        generalize setF (fun _ => 0) (fr d p e) (to d p e) 9 = F at hJ c2
        have HW := Lib.hid hw'
        clear hlt hle hin hv hc hw'
        go_wp2_with (first
          | (go_at_call 22; refine (c1 _).mono ?_; rintro e w' ⟨rfl, rfl⟩)
          | (go_at_call 23; refine (c3 _).mono ?_; rintro e w' ⟨rfl, rfl⟩)
          | (go_at_call 16; refine (c2 _ hJ.dat).mono ?_; rintro e w' ⟨rfl, q5, rfl⟩))
        have HJ := Lib.hid hJ
        clear c1 c2 c3 hJ
        go_roundw
        case rel => exact ⟨k + 1, by omega, by simp, by rw [hc']; simp, HJ.out.drewN q5⟩
        case measure => simp [intOf]; omega
      · have hv : setF (fun _ => 0) (fr d p e) (to d p e) 9 k = 0 := by unfold setF; rw [if_neg hin]
        rw [hv] at c2
        rw [decide_eq_false (fun h => hin ((in_iff d p e k).1 h))] at c3
        have hc := cnt_out _ _ _ (Nat.le_of_lt hlt) hin
        generalize cnt (fr d p e) (to d p e) k = x at hc hcl
        generalize setF (fun _ => 0) (fr d p e) (to d p e) 9 = F at hJ c2
        clear hlt hle hin hv
        go_wp2_with (first
          | (go_at_call 22; refine (c1 _).mono ?_; rintro e w' ⟨rfl, rfl⟩)
          | (go_at_call 23; refine (c3 _).mono ?_; rintro e w' ⟨rfl, rfl⟩)
          | (go_at_call 16; refine (c2 _ hJ.dat).mono ?_; rintro e w' ⟨rfl, q5, rfl⟩))
        have HJ := Lib.hid hJ
        clear c1 c2 c3 hJ
        go_roundw
        case rel => exact ⟨k + 1, by omega, by simp, by rw [hc], HJ.out.drewN q5⟩
        case measure => simp [intOf]; omega
    · obtain rfl : k = n := by omega
      clear cLow cAt cW
      have hca := cnt_all (fr d p e) (to d p e) k (Nat.le_of_lt hlt) hle
      rw [hca]
      generalize to d p e - fr d p e = z
      have hz := cTop e he
      have e1 := wrap_two e (by omega)
      have em := two_le e (by omega)
      have cSp := fun k (hk : k < 2 ^ e) W (hW : DAt B d (setF (fun _ => 0) (fr d p e) (to d p e) 9) W) => span_yes B d _ W hW k e he hk
      have cFr := fun k hk => cTo k e he hk
      generalize 2 ^ e = m at e1 em hz cSp hp cFr
      generalize setF (fun _ => 0) (fr d p e) (to d p e) 9 = F at hJ cSp
      clear hca cIn cTo cTop hlt hle
      have HZ := Lib.hid hz
      clear hz
      go_wp2_with fail
      rw [e1]
      go_loopw [79, 15] (fun i s W => ∃ j : Nat, j ≤ m ∧ i = .int .i64 j ∧ s = .int .i64 (fr d j e : Nat) ∧ Keep B d F w W) (fun i _ _ => m - (intOf i).toNat)
      case atStart => exact ⟨0, by omega, rfl, by rw [fr_zero]; rfl, hJ⟩
      case round =>
        obtain ⟨j, hj, rfl, rfl, hJ2⟩ := hrel
        clear hJ
        rcases Nat.lt_or_ge j m with hjm | hge
        · have hjm' : (j : Int) < (m : Int) := by omega
          have c1 := fun W hW => cSp j hjm W hW
          have hl : (fr d j e : Int) < (to d j e : Int) := by have := fr_lt d j e; omega
          have hl2 : decide ((to d j e : Int) ≤ (fr d j e : Int)) = false := decide_eq_false (by omega)
          have ht := Lib.hid (to_fr d j e)
          generalize to d j e = y at c1 hl hl2 ht
          generalize fr d j e = x at c1 hl hl2
          clear cSp
          go_wp2_with (go_at_call 14; refine (c1 _ hJ2.dat).mono ?_; rintro e w' ⟨rfl, q6, rfl⟩)
          go_roundw
          case rel => exact ⟨j + 1, by omega, by simp, by rw [ht.out], hJ2.drewN q6⟩
          case measure => simp [intOf]; omega
        · obtain rfl : j = m := by omega
          rw [HZ.out]
          have c1 := cLen B F
          clear cLen cSp
          go_wp2_with (go_at_call 20; refine (c1 _ hJ2.dat).mono ?_; rintro e w' ⟨rfl, rfl⟩)
          go_ret
          exact ⟨by simp, hJ2.below⟩
theorem parts_any (i p e : Int) (w : World) (a : String → Addr) (hE : ErrsOk ["ambler/api.ErrRange"] a w) :
    Calls Tryd.prog 4 #[.int .i64 i, .int .i64 p, .int .i64 e] w fun e w' => e = .returned (.bool true) ∧ Below w.heap.size w w' := by
  by_cases hi : i < 0 ∨ 5 < i
  · exact parts_bad i p e hi w a hE
  · obtain ⟨d, rfl⟩ := Int.eq_ofNat_of_zero_le (show 0 ≤ i by omega)
    rcases span_cases d (by omega) p e with h | ⟨q, k, rfl, rfl, hk, hq⟩
    · exact parts_no d p e (by omega) h w a hE
    · exact parts_yes d q k (by omega) hk hq w
end Go.Proofs.YtdhflnfckjjibaaDoor.dir
