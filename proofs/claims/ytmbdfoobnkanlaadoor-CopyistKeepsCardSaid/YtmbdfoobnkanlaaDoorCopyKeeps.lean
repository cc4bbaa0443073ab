/- CopyKeeps: the walk of CopyistKeeps. -/
import Derived.Test.YtmbdfoobnkanlaaDoorCopyBegun
namespace Go.Proofs.YtmbdfoobnkanlaaDoor.copyist
open Go.ChangeShapes Go.WideShapes Go.ChangeAt Go.RowKit split trap errs dir meter
set_option linter.unusedSimpArgs false
set_option linter.unusedVariables false

/-- a list of hashes that lies below -/
def HashAt (s : Option Addr) (la : Nat) (w : World) (zs : Nat → Nat) : Prop := ∀ j, j < la → zs j < 18446744073709551616 ∧ ∃ x, s = some x ∧ ∀ W, Below w.heap.size w W → W.cell? (x.add j) = some (.int .u64 (zs j : Nat))
theorem rl_at (C A N B d k : Nat) (f : Nat → Nat) (t : Bool) (w0 W : World) (h : Rl C A N B d f k t w0 W) (n : Nat) (hn : n < 18446744073709551616) :
    Calls Tryd.prog 21 #[.pointer (some ⟨C, 0, none⟩), .int .u64 n] W fun e W' => e = .returned (.int .i64 (f (n / 2 ^ (64 - d)) : Nat)) ∧ Rl C A N B d f k t w0 W' := by
  obtain ⟨g, hc, hi⟩ := h.c
  refine (copyist.at_any C A N d k f g t W hc n hn).mono ?_
  rintro e W' ⟨rfl, q, rfl⟩
  exact ⟨rfl, h.past (dir.drewN_below W q)⟩
theorem rl_newat (C A N B d : Nat) (f : Nat → Nat) (t : Bool) (w0 W : World) (h : Rl C A N B d f (2 ^ d) t w0 W) (n : Nat) (hn : n < 18446744073709551616) :
    Calls Tryd.prog 20 #[.pointer (some ⟨N, 0, none⟩), .int .u64 n] W fun e W' => e = .returned (.int .i64 (f (n / 2 ^ (64 - d)) : Nat)) ∧ Rl C A N B d f (2 ^ d) t w0 W' := by
  have hd4 := h.d4
  obtain ⟨g, hd, hg⟩ := rl_made h
  have e1 := hg (n / 2 ^ (64 - (d + 1))) (tp_lt n (d + 1) hn (by omega))
  have e2 : n / 2 ^ (64 - (d + 1)) / 2 = n / 2 ^ (64 - d) := by
    rw [Nat.div_div_eq_div_mul, ← Nat.pow_succ, show (64 - (d + 1)).succ = 64 - d by omega]
  refine (dir.at_any N (d + 1) g W hd n hn).mono ?_
  rintro e W' ⟨rfl, q, rfl⟩
  refine ⟨?_, h.past (dir.drewN_below W q)⟩
  rw [e1]; unfold dbl; rw [e2]
theorem rl_newlen (C A N B d : Nat) (f : Nat → Nat) (t : Bool) (w0 W : World) (h : Rl C A N B d f (2 ^ d) t w0 W) :
    Calls Tryd.prog 19 #[.pointer (some ⟨N, 0, none⟩)] W fun e W' => e = .returned (.int .i64 (2 ^ (d + 1) : Nat)) ∧ W = W' := by
  obtain ⟨g, hd, hg⟩ := rl_made h
  exact len_any N (d + 1) g W hd
set_option maxRecDepth 20000 in
theorem keeps_many (a : String → Addr) (i : Int) (s : Option Addr) (la ca : Nat) (s2 : Option Addr) (lh ch : Nat) (hl : 40 < lh ∨ 100 < la) (w : World) (hE : Er a w) :
    Calls Tryd.prog 4 #[.int .i64 i, .slice s la ca, .slice s2 lh ch] w fun e w' => e = .returned (.bool true) ∧ Below w.heap.size w w' := by
  by_cases h1 : 40 < lh
  · have d1 : decide (40 < (lh : Int)) = true := decide_eq_true (by omega)
    go_enter Tryd.func4, Tryd.ntmps4
    go_wp2_with (go_at_call 5; refine (alive_any a _ hE).mono ?_; rintro e w1 ⟨rfl, hb1⟩)
    go_ret
    exact ⟨rfl, hb1⟩
  · have d1 : decide (40 < (lh : Int)) = false := decide_eq_false (by omega)
    have d2 : decide (100 < (la : Int)) = true := decide_eq_true (by omega)
    go_enter Tryd.func4, Tryd.ntmps4
    go_wp2_with (go_at_call 5; refine (alive_any a _ hE).mono ?_; rintro e w1 ⟨rfl, hb1⟩)
    go_ret
    exact ⟨rfl, hb1⟩
/-- the five numbers that CopyistKeeps begins with -/
theorem ids5 (W : World) : IdsAt (some ⟨W.heap.size, 0, none⟩) 5 (W.alloc (.cells #[.int .i64 1, .int .i64 2, .int .i64 3, .int .i64 4, .int .i64 5] 3)) (fun j => ((j + 1 : Nat) : Int)) := by
  intro j hj
  refine ⟨_, rfl, fun W' hb' => ?_⟩
  rw [addr_add]
  refine (hb'.cell (by simp)).trans ?_
  rw [cell_alloc_row]
  match j, hj with
  | 0, _ => rfl
  | 1, _ => rfl
  | 2, _ => rfl
  | 3, _ => rfl
  | 4, _ => rfl
  | j + 5, h => omega
set_option maxRecDepth 20000 in
/-- where there is no copyist -/
theorem keeps_none (a : String → Addr) (i : Int) (s : Option Addr) (la ca : Nat) (s2 : Option Addr) (lh ch : Nat) (h1 : lh ≤ 40) (h2 : la ≤ 100) (w : World) (hE : Er a w)
    (hB : ∀ W, Below w.heap.size w W → Calls Tryd.prog 6 #[.int .i64 i, .slice (some ⟨W.heap.size, 0, none⟩) 5 5] (W.alloc (.cells #[.int .i64 1, .int .i64 2, .int .i64 3, .int .i64 4, .int .i64 5] 3)) fun e w' => ∃ pr er, e = .returned (.tuple #[.pointer none, .pointer pr, errV er]) ∧ Below w.heap.size w w') :
    Calls Tryd.prog 4 #[.int .i64 i, .slice s la ca, .slice s2 lh ch] w fun e w' => e = .returned (.bool true) ∧ Below w.heap.size w w' := by
  have d1 : decide (40 < (lh : Int)) = false := decide_eq_false (by omega)
  have d2 : decide (100 < (la : Int)) = false := decide_eq_false (by omega)
  go_enter Tryd.func4, Tryd.ntmps4
  go_wp2_with (first
    | (go_at_call 5; refine (alive_any a _ hE).mono ?_; rintro e w1 ⟨rfl, hb1⟩)
    | (go_at_call 6; refine (hB _ hb1).mono ?_; rintro e w2 ⟨pr, er, rfl, hb2⟩))
  go_ret
  exact ⟨rfl, hb2⟩
set_option maxRecDepth 20000 in
set_option maxHeartbeats 4000000 in
theorem keeps_good (a : String → Addr) (d : Nat) (hd : d ≤ 4) (s : Option Addr) (la ca : Nat) (az : Nat → Ac) (s2 : Option Addr) (lh ch : Nat) (hz : Nat → Nat) (h1 : lh ≤ 40) (h2 : la ≤ 100) (w : World) (hE : Er a w) (hA : ActAt s la w az) (hH : HashAt s2 lh w hz) :
    Calls Tryd.prog 4 #[.int .i64 d, .slice s la ca, .slice s2 lh ch] w fun e w' => e = .returned (.bool true) ∧ Below w.heap.size w w' := by
  have d1 : decide (40 < (lh : Int)) = false := decide_eq_false (by omega)
  have d2 : decide (100 < (la : Int)) = false := decide_eq_false (by omega)
  have HE := Lib.hid hE
  have HA := Lib.hid hA
  have HH := Lib.hid hH
  have hG : ∀ W, Below w.heap.size w W → Calls Tryd.prog 6 #[.int .i64 d, .slice (some ⟨W.heap.size, 0, none⟩) 5 5] (W.alloc (.cells #[.int .i64 1, .int .i64 2, .int .i64 3, .int .i64 4, .int .i64 5] 3)) fun e w' => ∃ A N C R f, e = .returned (.tuple #[.pointer (some ⟨C, 0, none⟩), .pointer (some ⟨R, 0, none⟩), .nilIface]) ∧ CAt C A N d f (fun _ => 0) 0 false w' ∧ Below w.heap.size w w' ∧ w.heap.size ≤ C ∧ w.heap.size ≤ A ∧ w.heap.size ≤ N := fun W hb => by
    have hb2 := under.below_step hb (new_block W (.cells #[.int .i64 1, .int .i64 2, .int .i64 3, .int .i64 4, .int .i64 5] 3))
    refine (begun_any a d (by omega) (some ⟨W.heap.size, 0, none⟩) 5 5 (fun j => ((j + 1 : Nat) : Int)) (by decide) _ (hE.below hb2) (ids5 W)).mono ?_
    · rintro e w' ⟨pc, pr, ev, rfl, h⟩
      rcases h with ⟨h5, _⟩ | ⟨_, A, N, C, R, B, G, f, rfl, rfl, rfl, hb⟩
      · omega
      · have hs := hb2.size
        exact ⟨A, N, C, R, f, rfl, hb.c, under.below_step hb2 hb.below, Nat.le_trans hs hb.lc, Nat.le_trans hs hb.la, Nat.le_trans hs hb.ln⟩
  have HG := Lib.hid hG
  clear hE hA hH hG
  go_enter Tryd.func4, Tryd.ntmps4
  go_wp2_with (first
    | (go_at_call 5; refine (alive_any a _ HE.out).mono ?_; rintro e w1 ⟨rfl, hb1⟩)
    | (go_at_call 6; refine (HG.out _ hb1).mono ?_; rintro e w2 ⟨A, N, C, R, f0, rfl, hc, hb2, lc, la', ln⟩; clear hb1))
  have hR := rl_new hc hb2 lc la' ln
  clear hc hb2 lc la' ln HG
  generalize w2.heap.size = B at hR ⊢
  generalize w2.alloc (.cells #[.int .i64 0, .int .i64 0, .int .i64 0, .int .i64 0, .int .i64 0, .int .i64 0, .int .i64 0, .bool false] 36) = w3 at hR ⊢
  go_loopw [47] (fun i W => ∃ j : Nat, j ≤ la ∧ i = .int .i64 j ∧ ∃ f k, Rl C A N B d f k false w W) (fun i _ => la - (intOf i).toNat)
  case atStart => exact ⟨0, by omega, rfl, _, _, hR⟩
  case round =>
    obtain ⟨j, hj, rfl, f, k, hS⟩ := hrel
    clear hR
    rcases Nat.lt_or_ge j la with hlt | hge
    · have hlt' : (j : Int) < (la : Int) := by omega
      obtain ⟨x, rfl, hc⟩ := HA.out j hlt
      obtain ⟨c0, c1, c2, c3⟩ := hc wr hS.below
      clear HA hc HH
      generalize az j = c at c0 c1 c2 c3
      have hX : Box wr.heap.size c (wr.alloc (.cells #[.int .i64 c.k, .int .i64 c.a, .int .i64 c.b, .int .i64 c.n] 38)) :=
        ⟨by rw [cell_alloc_row]; rfl, by rw [cell_alloc_row]; rfl, by rw [cell_alloc_row]; rfl, by rw [cell_alloc_row]; rfl⟩
      have hS0 := hS.past (new_block wr (.cells #[.int .i64 c.k, .int .i64 c.a, .int .i64 c.b, .int .i64 c.n] 38))
      clear hS
      obtain ⟨ck, ca, cb, cn⟩ := c
      by_cases hk : ck = 0
      · subst hk
        by_cases hbad : NoSpan d ca cb ∨ cn < 0
        · as_aux_lemma =>
            have cS := fun W (hW : Rl C A N B d f k false w W) => rl_setbad a C A N B d k f false w W HE.out hW ca cb cn hbad
            clear hbad
            go_wp2_with (go_at_call 8; refine (cS _ hS0).mono ?_; rintro e w4 ⟨rfl, hS4, _⟩)
            go_roundw
            case rel => exact ⟨j + 1, by omega, by simp, _, _, hS4⟩
            case measure => simp [intOf]; omega
        · as_aux_lemma =>
            obtain ⟨p, e, hp1, he1, he, hp⟩ := (span_cases d (by omega) ca cb).resolve_left (fun h => hbad (.inl h))
            obtain ⟨n, hn⟩ := Int.eq_ofNat_of_zero_le (show 0 ≤ cn by omega)
            subst hp1 he1 hn
            have cS := fun W (hW : Rl C A N B d f k false w W) => rl_set a C A N B d k f false w W HE.out hW p e n he hp
            have hlt2 := fr_lt d p e
            have hv : 1 ≤ to d p e - fr d p e + 2 * (min (to d p e) k - fr d p e) := by omega
            generalize to d p e - fr d p e + 2 * (min (to d p e) k - fr d p e) = v at cS hv
            generalize setF f (fr d p e) (to d p e) n = f' at cS
            have hv2 : ¬ (v : Int) < 1 := by omega
            clear hbad hlt2 hv
            go_wp2_with (go_at_call 8; refine (cS _ hS0).mono ?_; rintro e w4 ⟨rfl, hS4, _⟩)
            go_roundw
            case rel => exact ⟨j + 1, by omega, by simp, _, _, hS4⟩
            case measure => simp [intOf]; omega
      · as_aux_lemma =>
          have cS := fun W (hW : Rl C A N B d f k false w W) => rl_step a C A N B d k f false w W HE.out hW
          generalize decide (k < 2 ^ d) = b at cS
          have q1 : ((ck : Int) == 0) = false := by simpa using hk
          go_wp2_with (go_at_call 15; refine (cS _ hS0).mono ?_; rintro e w4 ⟨rfl, hS4, _⟩)
          go_roundw
          case rel => exact ⟨j + 1, by omega, by simp, _, _, hS4⟩
          case measure => simp [intOf]; omega
    · obtain rfl : j = la := by omega
      clear HA
      go_wp2_with fail
      have cS := fun k W (hW : Rl C A N B d f k false w W) => rl_step a C A N B d k f false w W HE.out hW
      have CS := Lib.hid cS
      clear cS
      go_loopw [83] (fun i W => ∃ l k : Nat, l ≤ 40 ∧ i = .int .i64 l ∧ min l (2 ^ d) ≤ k ∧ Rl C A N B d f k false w W) (fun i _ => 40 - (intOf i).toNat)
      case atStart => exact ⟨0, k, by omega, rfl, by omega, hS⟩
      case round =>
        obtain ⟨l, k, hl, rfl, hlk, hS⟩ := hrel
        by_cases hlt : l < 40
        · as_aux_lemma =>
            have cS := CS.out k _ hS
            have hl2 : (l : Int) < 40 := by omega
            have hn : min (l + 1) (2 ^ d) ≤ nxt d k := by unfold nxt; split <;> omega
            clear CS
            have HN := Lib.hid hn
            clear hn
            generalize decide (k < 2 ^ d) = b at cS
            go_wp2_with (go_at_call 15; refine cS.mono ?_; rintro e w4 ⟨rfl, hS4, _⟩)
            go_roundw
            case rel => exact ⟨l + 1, nxt d k, by omega, by simp, HN.out, hS4⟩
            case measure => simp [intOf]; omega
        · obtain rfl : l = 40 := by omega
          have hkd : k = 2 ^ d := by
            have h1 := hS.kd
            have h2 := two_le4 d hd
            omega
          subst hkd
          have cT := rl_take C A N B d f w _ hS
          have cL := fun W (hW : Rl C A N B d f (2 ^ d) true w W) => rl_newlen C A N B d f true w W hW
          have cA := fun W (hW : Rl C A N B d f (2 ^ d) true w W) n hn => rl_newat C A N B d f true w W hW n hn
          have cB := fun W (hW : Rl C A N B d f (2 ^ d) true w W) n hn => copyist.rl_at C A N B d (2 ^ d) f true w W hW n hn
          have cE := fun W (hW : Rl C A N B d f (2 ^ d) true w W) => rl_left C A N B d (2 ^ d) f true w W hW
          simp only [Nat.sub_self] at cE
          clear CS hlk hlt hS
          rw [two_next] at cL
          have h16 := two_le4 d hd
          have e2 : wrap64 (2 * (2 : Int) ^ d) = ((2 * 2 ^ d : Nat) : Int) := by
            rw [cast_pow, show (2 : Int) * ((2 ^ d : Nat) : Int) = ((2 * 2 ^ d : Nat) : Int) by omega, i64_nat (2 * 2 ^ d) (by omega)]
          generalize 2 * 2 ^ d = m at cL e2
          generalize 2 ^ d = n at cT cL cA cB cE h16 e2
          have CA := Lib.hid cA
          have CB := Lib.hid cB
          have CE := Lib.hid cE
          clear cA cB cE
          go_wp2_with (go_at_call 10; refine cT.mono ?_; rintro e w5 ⟨rfl, hR5, _⟩)
          clear cT
          have cL2 := fun q => cL _ (hR5.past (dir.drewN_below w5 q))
          go_quiet ((go_at_call 19; exact quiet_same (cL2 _)))
          clear cL2 cL
          have hR6 := hR5.past (dir.drewN_below w5 nq)
          generalize w5.drewN nq = w6 at hR6 ⊢
          go_wp2_with fail
          try rw [e2]
          go_loopw [109] (fun i W => ∃ l : Nat, l ≤ lh ∧ i = .int .i64 l ∧ Rl C A N B d f n true w W) (fun i _ => lh - (intOf i).toNat)
          case atStart => exact ⟨0, by omega, rfl, hR6⟩
          case round =>
            obtain ⟨l, hl, rfl, hS⟩ := hrel
            clear hR6
            rcases Nat.lt_or_ge l lh with hlt | hge
            · as_aux_lemma =>
                have hl2 : (l : Int) < (lh : Int) := by omega
                obtain ⟨hh, x, rfl, hc⟩ := HH.out l hlt
                have c0 := hc wr hS.below
                have cA := fun W hW => CA.out W hW (hz l) hh
                have cB := fun W hW => CB.out W hW (hz l) hh
                clear HH hc CA CB CE
                generalize f (hz l / 2 ^ (64 - d)) = v at cA cB
                generalize hz l = h at c0 cA cB
                go_wp2_with (first
                  | (go_at_call 20; refine (cA _ hS).mono ?_; rintro e w7 ⟨rfl, hR7⟩)
                  | (go_at_call 21; refine (cB _ hR7).mono ?_; rintro e w8 ⟨rfl, hR8⟩))
                go_roundw
                case rel => exact ⟨l + 1, by omega, by simp, hR8⟩
                case measure => simp [intOf]; omega
            · obtain rfl : l = lh := by omega
              have cE := CE.out _ hS
              clear HH CA CB CE
              go_wp2_with (go_at_call 17; refine cE.mono ?_; rintro e w9 ⟨rfl, q9, rfl⟩)
              go_ret
              exact ⟨rfl, (hS.past (dir.drewN_below _ q9)).below⟩
theorem keeps_any (a : String → Addr) (i : Int) (s : Option Addr) (la ca : Nat) (az : Nat → Ac) (s2 : Option Addr) (lh ch : Nat) (hz : Nat → Nat) (w : World) (hE : Er a w) (hA : ActAt s la w az) (hH : HashAt s2 lh w hz) :
    Calls Tryd.prog 4 #[.int .i64 i, .slice s la ca, .slice s2 lh ch] w fun e w' => e = .returned (.bool true) ∧ Below w.heap.size w w' := by
  by_cases hl : 40 < lh ∨ 100 < la
  · exact keeps_many a i s la ca s2 lh ch hl w hE
  by_cases hi : i < 0 ∨ 5 < i
  · refine keeps_none a i s la ca s2 lh ch (by omega) (by omega) w hE fun W hb => ?_
    have hb2 := under.below_step hb (new_block W (.cells #[.int .i64 1, .int .i64 2, .int .i64 3, .int .i64 4, .int .i64 5] 3))
    refine (begun_bad a i hi _ 5 5 _ (hE.below hb2)).mono ?_
    rintro e w' ⟨rfl, hb3⟩
    exact ⟨none, _, rfl, under.below_step hb2 hb3⟩
  obtain ⟨d, rfl⟩ := Int.eq_ofNat_of_zero_le (show 0 ≤ i by omega)
  by_cases h5 : d = 5
  · subst h5
    refine keeps_none a 5 s la ca s2 lh ch (by omega) (by omega) w hE fun W hb => ?_
    have hb2 := under.below_step hb (new_block W (.cells #[.int .i64 1, .int .i64 2, .int .i64 3, .int .i64 4, .int .i64 5] 3))
    refine (begun_any a 5 (by decide) _ 5 5 _ (by decide) _ (hE.below hb2) (ids5 W)).mono ?_
    rintro e w' ⟨pc, pr, ev, rfl, h⟩
    rcases h with ⟨_, rfl, rfl, hb3⟩ | ⟨h4, _⟩
    · exact ⟨pr, _, rfl, under.below_step hb2 hb3⟩
    · omega
  · exact keeps_good a d (by omega) s la ca az s2 lh ch hz (by omega) (by omega) w hE hA hH
end Go.Proofs.YtmbdfoobnkanlaaDoor.copyist
