/- DirHalves: the walk. -/
import Derived.Test.YtdhflnfckjjibaaDoorDirParts
namespace Go.Proofs.YtdhflnfckjjibaaDoor.dir
open Go.ChangeShapes Go.WideShapes Go.ChangeAt Go.RowKit split trap errs
set_option linter.unusedSimpArgs false
set_option linter.unusedVariables false

theorem span_len (d p e : Nat) : to d p e - fr d p e = 2 ^ (d - e) := by unfold to fr; rw [Nat.add_mul]; omega
theorem half_lo (d p e : Nat) (he : e < d) : fr d (2 * p) (e + 1) = fr d p e := by
  unfold fr; rw [show d - e = (d - (e + 1)) + 1 by omega, Nat.pow_succ]
  rw [Nat.mul_comm 2 p, Nat.mul_assoc, Nat.mul_comm 2]
theorem half_mid (d p e : Nat) : to d (2 * p) (e + 1) = fr d (2 * p + 1) (e + 1) := rfl
theorem half_hi (d p e : Nat) (he : e < d) : to d (2 * p + 1) (e + 1) = to d p e := by
  have h := half_lo d (p + 1) e he
  unfold fr at h
  unfold to
  rw [← h, show 2 * (p + 1) = 2 * p + 1 + 1 by omega]
theorem setF_two (f : Nat → Nat) (x z y n : Nat) (h1 : x ≤ z) (h2 : z ≤ y) : setF (setF f x z n) z y n = setF f x y n := by
  funext j; unfold setF
  by_cases a : z ≤ j ∧ j < y
  · rw [if_pos a, if_pos ⟨by omega, a.2⟩]
  · rw [if_neg a]
    have e2 : (x ≤ j ∧ j < z) = (x ≤ j ∧ j < y) := by apply propext; omega
    simp only [e2]
theorem halves_bad (i p e : Int) (hi : i < 0 ∨ 5 < i) (w : World) (a : String → Addr) (hE : ErrsOk ["ambler/api.ErrRange"] a w) :
    Calls Tryd.prog 5 #[.int .i64 i, .int .i64 p, .int .i64 e] w fun e w' => e = .returned (.bool true) ∧ Below w.heap.size w w' := by
  have cN := fun W hr => new_no i hi W (errV (a "ambler/api.ErrRange")) hr
  have hr := fun W (hb : Below w.heap.size w W) => (hE.below hb).at gErrRange (by simp)
  go_enter Tryd.func5, Tryd.ntmps5
  go_wp2_with (first
    | (go_at_call 6; refine (alive_any _).mono ?_; rintro e w1 ⟨rfl, hb1⟩)
    | (go_at_call 7; refine (cN _ (hr _ hb1)).mono ?_; rintro e w2 ⟨rfl, q, rfl⟩)
    | (go_at_call 7; refine (cN _ (hr _ (below_drewN hb1 q))).mono ?_; rintro e w2 ⟨rfl, q2, rfl⟩))
  go_ret
  exact ⟨rfl, below_drewN hb1 _⟩
theorem halves_none (d : Nat) (p e : Int) (hd : d ≤ 5) (hn : e < 0 ∨ (d : Int) ≤ e ∨ p < 0 ∨ ∃ k : Nat, k ≤ d ∧ e = k ∧ ((2 ^ k : Nat) : Int) ≤ p) (w : World) :
    Calls Tryd.prog 5 #[.int .i64 d, .int .i64 p, .int .i64 e] w fun e w' => e = .returned (.bool true) ∧ Below w.heap.size w w' := by
  have cA := fun W => alive_any W
  have cN := fun W (hb : Below w.heap.size w W) => (new_yes d hd W).mono fun e w' (h : _ ∧ _ ∧ _) => (⟨h.1, h.2.1, under.below_step hb h.2.2⟩ : _ ∧ _ ∧ Below w.heap.size w w')
  by_cases h1 : e < 0
  · have f1 : decide (e < 0) = true := decide_eq_true h1
    clear hn
    go_enter Tryd.func5, Tryd.ntmps5
    go_wp2_with (first
      | (go_at_call 6; refine (cA _).mono ?_; rintro e w1 ⟨rfl, hb1⟩)
      | (go_at_call 7; refine (cN _ hb1).mono ?_; rintro e w2 ⟨rfl, hd2, hb2⟩; clear hb1)
      | (go_at_call 7; refine (cN _ hb2).mono ?_; rintro e w3 ⟨rfl, hd3, hb3⟩))
    go_ret
    exact ⟨rfl, hb3⟩
  by_cases h2 : (d : Int) ≤ e
  · have f1 : decide (e < 0) = false := decide_eq_false h1
    have f2 : decide ((d : Int) ≤ e) = true := decide_eq_true h2
    clear hn
    go_enter Tryd.func5, Tryd.ntmps5
    go_wp2_with (first
      | (go_at_call 6; refine (cA _).mono ?_; rintro e w1 ⟨rfl, hb1⟩)
      | (go_at_call 7; refine (cN _ hb1).mono ?_; rintro e w2 ⟨rfl, hd2, hb2⟩; clear hb1)
      | (go_at_call 7; refine (cN _ hb2).mono ?_; rintro e w3 ⟨rfl, hd3, hb3⟩))
    go_ret
    exact ⟨rfl, hb3⟩
  by_cases h3 : p < 0
  · have f1 : decide (e < 0) = false := decide_eq_false h1
    have f2 : decide ((d : Int) ≤ e) = false := decide_eq_false h2
    have f3 : decide (p < 0) = true := decide_eq_true h3
    clear hn
    go_enter Tryd.func5, Tryd.ntmps5
    go_wp2_with (first
      | (go_at_call 6; refine (cA _).mono ?_; rintro e w1 ⟨rfl, hb1⟩)
      | (go_at_call 7; refine (cN _ hb1).mono ?_; rintro e w2 ⟨rfl, hd2, hb2⟩; clear hb1)
      | (go_at_call 7; refine (cN _ hb2).mono ?_; rintro e w3 ⟨rfl, hd3, hb3⟩))
    go_ret
    exact ⟨rfl, hb3⟩
  · obtain ⟨k, hk, rfl, h4⟩ := ((hn.resolve_left h1).resolve_left h2).resolve_left h3
    have f1 : decide ((k : Int) < 0) = false := decide_eq_false h1
    have f2 : decide ((d : Int) ≤ (k : Int)) = false := decide_eq_false h2
    have f2' : ¬ d ≤ k := by omega
    have f3 : decide (p < 0) = false := decide_eq_false h3
    have e1 := wrap_two k (by omega)
    generalize 2 ^ k = m at h4 e1
    have f4 : decide ((m : Int) ≤ p) = true := decide_eq_true h4
    clear hn
    go_enter Tryd.func5, Tryd.ntmps5
    go_wp2_with (first
      | (go_at_call 6; refine (cA _).mono ?_; rintro e w1 ⟨rfl, hb1⟩)
      | (go_at_call 7; refine (cN _ hb1).mono ?_; rintro e w2 ⟨rfl, hd2, hb2⟩; clear hb1)
      | (go_at_call 7; refine (cN _ hb2).mono ?_; rintro e w3 ⟨rfl, hd3, hb3⟩))
    go_ret
    exact ⟨rfl, hb3⟩
theorem set_7 (B d : Nat) (f : Nat → Nat) (w : World) (h : DAt B d f w) (p e : Nat) (he : e ≤ d) (hp : p < 2 ^ e) :
    Calls Tryd.prog 10 #[.pointer (some ⟨B, 0, none⟩), .int .i64 p, .int .i64 e, .int .i64 7] w fun x w' => x = .returned (.tuple #[.int .i64 (to d p e - fr d p e : Nat), .nilIface]) ∧ Past [B] w w' ∧ DAt B d (setF f (fr d p e) (to d p e) 7) w' := set_yes B d f w h p e 7 he hp
theorem cast_a (p : Nat) : ((2 * p : Nat) : Int) = 2 * (p : Int) := by omega
theorem cast_b (p : Nat) : ((2 * p + 1 : Nat) : Int) = 2 * (p : Int) + 1 := by omega
theorem cast_c (e : Nat) : ((e + 1 : Nat) : Int) = (e : Int) + 1 := by omega
theorem cast_d (s : Nat) : ((s * 2 : Nat) : Int) = (s : Int) + (s : Int) := by omega
theorem cast_e (s : Nat) : ((100 + s : Nat) : Int) = 100 + (s : Int) := by omega
/-- two directories beside each other -/
structure Both (A B d : Nat) (f g : Nat → Nat) (w W : World) : Prop where
  a : DAt A d f W
  b : DAt B d g W
  ne : A ≠ B
  below : Below w.heap.size w W
  lo : w.heap.size ≤ A
  lo2 : w.heap.size ≤ B
theorem Both.setA {A B d : Nat} {f g f' : Nat → Nat} {w W W' : World} (h : Both A B d f g w W) (hp : Past [A] W W') (hd : DAt A d f' W') : Both A B d f' g w W' :=
  ⟨hd, h.b.past hp (by simp; exact fun e => h.ne e.symm), h.ne, below_past h.below hp h.lo, h.lo, h.lo2⟩
theorem Both.setB {A B d : Nat} {f g g' : Nat → Nat} {w W W' : World} (h : Both A B d f g w W) (hp : Past [B] W W') (hd : DAt B d g' W') : Both A B d f g' w W' :=
  ⟨h.a.past hp (by simp; exact h.ne), hd, h.ne, below_past h.below hp h.lo2, h.lo, h.lo2⟩
theorem Both.past {A B d : Nat} {f g : Nat → Nat} {w W W' : World} (h : Both A B d f g w W) (hb : Below W.heap.size W W') : Both A B d f g w W' :=
  ⟨h.a.below hb, h.b.below hb, h.ne, under.below_step h.below hb, h.lo, h.lo2⟩
set_option maxHeartbeats 2000000 in
theorem halves_yes (d p e : Nat) (hd : d ≤ 5) (he : e < d) (hp : p < 2 ^ e) (w : World) :
    Calls Tryd.prog 5 #[.int .i64 d, .int .i64 p, .int .i64 e] w fun e w' => e = .returned (.bool true) ∧ Below w.heap.size w w' := by
  have f1 : decide ((e : Int) < 0) = false := decide_eq_false (by omega)
  have f2 : decide ((d : Int) ≤ (e : Int)) = false := decide_eq_false (by omega)
  have f2' : ¬ d ≤ e := by omega
  have f3 : decide ((p : Int) < 0) = false := decide_eq_false (by omega)
  have e1 := wrap_two e (by omega)
  have em := two_le e (by omega)
  have hpd : p < 32 := Nat.lt_of_lt_of_le hp (two_le e (by omega))
  have hq : 2 * p + 1 < 2 ^ (e + 1) := by rw [Nat.pow_succ]; omega
  have hl1 := fr_lt d (2 * p) (e + 1)
  have hl2 := fr_lt d (2 * p + 1) (e + 1)
  have hn1 := span_len d p e
  have hn2 := span_len d (2 * p) (e + 1)
  have hn3 := span_len d (2 * p + 1) (e + 1)
  have c1 := fun A f W (hW : DAt A d f W) => set_7 A d f W hW p e (by omega) hp
  have c2 := fun A f W (hW : DAt A d f W) => set_7 A d f W hW (2 * p) (e + 1) (by omega) (by omega)
  have c3 := fun A f W (hW : DAt A d f W) => set_7 A d f W hW (2 * p + 1) (e + 1) (by omega) hq
  have cL := fun A f W (hW : DAt A d f W) => list_any A d f W hW
  have cI := fun A f W (hW : DAt A d f W) j (hj : j < 2 ^ e) => by have h := set_yes A d f W hW j e (100 + j) (by omega) hj; rw [cast_e] at h; exact h
  rw [hn2] at c2
  rw [hn3] at c3
  rw [hn1] at c1
  rw [half_lo d p e he, half_mid] at c2 hl1
  rw [half_hi d p e he] at c3 hl2
  rw [show d - e = (d - (e + 1)) + 1 by omega, Nat.pow_succ] at c1
  have hs32 : 2 ^ (d - (e + 1)) ≤ 32 := two_le _ (by omega)
  generalize 2 ^ (d - (e + 1)) = s at c1 c2 c3 hs32
  have hF := setF_two (fun _ => 0) _ _ _ 7 (Nat.le_of_lt hl1) (Nat.le_of_lt hl2)
  generalize fr d p e = x at c1 c2 hF
  generalize fr d (2 * p + 1) (e + 1) = z at c2 c3 hF
  generalize to d p e = y at c1 c3 hF
  rw [cast_d] at c1
  rw [cast_b, cast_c] at c3
  rw [cast_a, cast_c] at c2
  have hT := fr_top d e (by omega)
  generalize 2 ^ e = m at hp e1 em cI hT
  have f4 : decide ((m : Int) ≤ (p : Int)) = false := decide_eq_false (Int.not_le.2 (Int.ofNat_lt.2 hp))
  have f4' : ¬ m ≤ p := Nat.not_le.2 hp
  have hn32 := two_le d hd
  have hnp := two_pos d
  generalize 2 ^ d = n at cL hn32 hnp hT
  have HT := Lib.hid hT
  have HF := Lib.hid hF
  have C1 := Lib.hid c1
  have C2 := Lib.hid c2
  have C3 := Lib.hid c3
  have CL := Lib.hid cL
  have CI := Lib.hid cI
  clear hT c1 c2 c3 cL cI hF hn1 hn2 hn3 hl1 hl2 hq
  go_enter Tryd.func5, Tryd.ntmps5
  go_wp2_with (first
    | (go_at_call 6; refine (alive_any _).mono ?_; rintro e w1 ⟨rfl, hb1⟩)
    | (go_at_call 7; refine (new_yes d hd w1).mono ?_; rintro e w2 ⟨rfl, hd2, hb2⟩)
    | (go_at_call 7; refine (new_yes d hd w2).mono ?_; rintro e w3 ⟨rfl, hd3, hb3⟩; have hB : Both w1.heap.size w2.heap.size d (fun _ => 0) (fun _ => 0) w w3 := ⟨hd2.below hb3, hd3, Nat.ne_of_lt hd2.lt, under.below_step (under.below_step hb1 hb2) hb3, hb1.size, Nat.le_trans hb1.size hb2.size⟩; clear hd2 hd3 hb1 hb2 hb3)
    | (go_at_call 10; refine (C1.out _ _ _ hB.a).mono ?_; rintro e w4 ⟨rfl, hp4, hd4⟩; have hB4 := hB.setA hp4 hd4; clear hp4 hd4 hB)
    | (go_at_call 10; (with_reducible refine (C2.out _ _ _ hB4.b).mono ?_); rintro e w5 ⟨rfl, hp5, hd5⟩; have hB5 := hB4.setB hp5 hd5; clear hp5 hd5 hB4)
    | (go_at_call 10; (with_reducible refine (C3.out _ _ _ hB5.b).mono ?_); rintro e w6 ⟨rfl, hp6, hd6⟩; have hB6 := hB5.setB hp6 hd6; clear hp6 hd6 hB5)
    | (go_at_call 18; refine (CL.out _ _ _ hB6.a).mono ?_; rintro e w7 ⟨g7, c7, rfl, hg7, hl7, hc7, hf7, hb7⟩)
    | (go_at_call 18; refine (CL.out _ _ _ (hB6.b.below hb7)).mono ?_; rintro e w8 ⟨g8, c8, rfl, hg8, hl8, hc8, hf8, hb8⟩))
  rw [HF.out] at hc8
  have hS := same_fn (setF (fun _ => 0) x y 7) n g7 c7 g8 c8 w8 (by omega) (fun j hj => (hb8.cell (p := ⟨g7, j, none⟩) hl7).trans (hc7 j hj)) hc8
  have hB8 := (hB6.past hb7).past hb8
  clear hc7 hc8 hf7 hf8 hg7 hg8 hl7 hl8 hb7 hb8 hB6 C1 C2 C3
  rw [HF.out] at hB8
  generalize setF (fun _ => 0) x y 7 = F at hB8 hS
  generalize w1.heap.size = A at hB8
  generalize w2.heap.size = B at hB8
  with_reducible refine hS.mono ?_
  rintro _ w9 ⟨rfl, rfl⟩
  clear hS HF
  go_wp2_with fail
  rw [e1]
  go_loopw [127] (fun i W => ∃ k : Nat, k ≤ m ∧ i = .int .i64 k ∧ ∃ f, Both A B d f F w W ∧ ∀ i, i < fr d k e → f i = 100 + i / 2 ^ (d - e)) (fun i _ => m - (intOf i).toNat)
  case atStart => exact ⟨0, by omega, rfl, F, hB8, fun i hi => by rw [fr_zero] at hi; omega⟩
  case round =>
    obtain ⟨k, hk, rfl, f, hB, hf⟩ := hrel
    clear hB8
    rcases Nat.lt_or_ge k m with hlt | hge
    · have hlt' : (k : Int) < (m : Int) := by omega
      have c1 := CI.out A f _ hB.a k hlt
      have hf' : ∀ i, i < fr d (k + 1) e → setF f (fr d k e) (to d k e) (100 + k) i = 100 + i / 2 ^ (d - e) := fun i hi => by
        unfold setF
        by_cases hin : fr d k e ≤ i ∧ i < to d k e
        · rw [if_pos hin, (in_iff d k e i).2 hin]
        · rw [if_neg hin]; exact hf i (by rw [← to_fr] at hi; omega)
      have HF := Lib.hid hf'
      clear hf hf' CI CL
      generalize setF f (fr d k e) (to d k e) (100 + k) = f2 at c1 HF
      generalize ((to d k e - fr d k e : Nat) : Int) = v at c1
      go_wp2_with (go_at_call 10; refine c1.mono ?_; rintro e w10 ⟨rfl, hp10, hd10⟩)
      go_roundw
      case rel => exact ⟨k + 1, by omega, by simp, f2, hB.setA hp10 hd10, HF.out⟩
      case measure => simp [intOf]; omega
    · obtain rfl : k = m := by omega
      have c1 := CL.out A f _ hB.a
      rw [HT.out] at hf
      have hB9 := fun W (hb : Below wr.heap.size wr W) => under.below_step hB.below hb
      obtain ⟨r, hr⟩ : ∃ r, d - e = r := ⟨_, rfl⟩
      have hr5 : r ≤ 5 := by omega
      have hds : (d : Int) - (e : Int) = (r : Int) := by omega
      rw [hr] at hf
      clear CI CL hB hr HT
      go_wp2_with (go_at_call 18; refine c1.mono ?_; rintro e w11 ⟨g, c, rfl, hg, hl, hc, hfz, hb⟩)
      have HB := Lib.hid (hB9 _ hb)
      have HC := Lib.hid hc
      have HF := Lib.hid hf
      clear hB9 hb hc hfz hf c1
      go_loop [145] (fun i => ∃ k : Nat, k ≤ n ∧ i = .int .i64 k) (fun i => n - (intOf i).toNat)
      case atStart => exact ⟨0, by omega, rfl⟩
      case round =>
        obtain ⟨j, hj, rfl⟩ := hrel
        by_cases hlt : j < n
        · have a1 := HC.out j hlt
          rw [HF.out j hlt, cast_e] at a1
          have hq : (j : Int) / 2 ^ r = ((j / 2 ^ r : Nat) : Int) := cast_div j r
          have hjr : j / 2 ^ r ≤ j := Nat.div_le_self _ _
          generalize j / 2 ^ r = y at a1 hq hjr
          go_wp2
          go_round
          case rel => exact ⟨j + 1, by omega, by go_num⟩
          case measure => simp [intOf]; omega
        · go_wp2
          go_ret
          exact ⟨rfl, HB.out⟩
theorem halves_any (i p e : Int) (w : World) (a : String → Addr) (hE : ErrsOk ["ambler/api.ErrRange"] a w) :
    Calls Tryd.prog 5 #[.int .i64 i, .int .i64 p, .int .i64 e] w fun e w' => e = .returned (.bool true) ∧ Below w.heap.size w w' := by
  by_cases hi : i < 0 ∨ 5 < i
  · exact halves_bad i p e hi w a hE
  · obtain ⟨d, rfl⟩ := Int.eq_ofNat_of_zero_le (show 0 ≤ i by omega)
    have hd : d ≤ 5 := by omega
    by_cases h : e < 0 ∨ (d : Int) ≤ e ∨ p < 0
    · exact halves_none d p e hd (by omega) w
    · obtain ⟨k, rfl⟩ := Int.eq_ofNat_of_zero_le (show 0 ≤ e by omega)
      obtain ⟨q, rfl⟩ := Int.eq_ofNat_of_zero_le (show 0 ≤ p by omega)
      by_cases hq : q < 2 ^ k
      · exact halves_yes d q k hd (by omega) hq w
      · exact halves_none d q k hd (.inr (.inr (.inr ⟨k, by omega, rfl, Int.ofNat_le.2 (Nat.not_lt.1 hq)⟩))) w
end Go.Proofs.YtdhflnfckjjibaaDoor.dir
