/- TableOne: the walk. -/
import Derived.Test.YtlgjmnckdjkngaaDoorTableNil
import Derived.LoopTactic
namespace Go.Proofs.YtlgjmnckdjkngaaDoor.table
open Go.ChangeShapes Go.WideShapes Go.ChangeAt Go.RowKit Go.Shelf swar under trap meter group probe lens tail call
attribute [local go_sem] Oper.semAt_some stage.pureUpon move.stepUpon
set_option linter.unusedSimpArgs false
set_option linter.unusedVariables false

/-- each key's hash; that of all others is the first one's -/
def hOf (la : Nat) (hz : Nat → Nat) (k : Nat) : Nat := if k < la then hz k else hz 0
theorem hOf_lt {la : Nat} {hz : Nat → Nat} {k : Nat} (h : k < la) : hOf la hz k = hz k := if_pos h
/-- what is found depends on the partial function alone -/
theorem Rep.same {t u : Tb} {H : Nat → Nat} {M N : Nat → Option Nat} (h : Rep H t M) (g : Rep H u N) {key : Nat} (e : M key = N key) : entOf t key (H key) = entOf u key (H key) ∧ isThere t key (H key) = isThere u key (H key) := by
  refine ⟨?_, by rw [h.there, g.there, e]⟩
  cases hM : M key with
  | none => rw [h.ent_none hM, g.ent_none (e ▸ hM)]
  | some v => rw [h.ent hM, g.ent (e ▸ hM)]
/-- between two rounds -/
def OneI (w : World) (T1 B1 T2 B2 Bl la n : Nat) (H : Nat → Nat) (W : World) : Prop := ∃ t M, L2 w T1 B1 T2 B2 Bl t t W ∧ Rep H t M ∧ t.n = n ∧ ∀ k, la ≤ k → M k = none
theorem add_zero' (x : Addr) : x.add 0 = x := by
  unfold Addr.add; split <;> simp_all
theorem act0 (kd ky nn : Int) (w : World) : (w.alloc (.cells #[.int .i64 kd, .int .i64 ky, .int .i64 nn] 56)).cell? ⟨w.heap.size, 0, none⟩ = some (.int .i64 kd) := by
  rw [cell_of_row _ _ _ _ _ _ (World.alloc_heap_new w _)]; rfl
set_option maxRecDepth 20000 in
theorem one_many (a : String → Addr) (g : Int) (s1 s2 : Option Addr) (la ca lb cb : Nat) (hc : la < 1 ∨ 60 < la ∨ 80 < lb) (w : World) (hw : Base a w) :
    Calls Tryd.prog 5 #[.int .i64 g, .slice s1 la ca, .slice s2 lb cb] w fun e w' => e = .returned (.bool true) ∧ Below w.heap.size w w' := by
  have hA := alive_any a w hw
  clear hw
  rcases hc with h | h | h
  · have d1 : decide ((la : Int) < 1) = true := decide_eq_true (by omega)
    go_enter Tryd.func5, Tryd.ntmps5
    go_wp2_with (go_at_call 7; refine hA.mono ?_; rintro e w1 ⟨rfl, hb1⟩)
    go_ret
    exact ⟨rfl, hb1⟩
  · have d1 : decide ((la : Int) < 1) = false := decide_eq_false (by omega)
    have d2 : decide (60 < (la : Int)) = true := decide_eq_true (by omega)
    go_enter Tryd.func5, Tryd.ntmps5
    go_wp2_with (go_at_call 7; refine hA.mono ?_; rintro e w1 ⟨rfl, hb1⟩)
    go_ret
    exact ⟨rfl, hb1⟩
  · have d3 : decide (80 < (lb : Int)) = true := decide_eq_true (by omega)
    by_cases h1 : la < 1
    · have d1 : decide ((la : Int) < 1) = true := decide_eq_true (by omega)
      go_enter Tryd.func5, Tryd.ntmps5
      go_wp2_with (go_at_call 7; refine hA.mono ?_; rintro e w1 ⟨rfl, hb1⟩)
      go_ret
      exact ⟨rfl, hb1⟩
    · have d1 : decide ((la : Int) < 1) = false := decide_eq_false (by omega)
      by_cases h2 : 60 < la
      · have d2 : decide (60 < (la : Int)) = true := decide_eq_true (by omega)
        go_enter Tryd.func5, Tryd.ntmps5
        go_wp2_with (go_at_call 7; refine hA.mono ?_; rintro e w1 ⟨rfl, hb1⟩)
        go_ret
        exact ⟨rfl, hb1⟩
      · have d2 : decide (60 < (la : Int)) = false := decide_eq_false (by omega)
        go_enter Tryd.func5, Tryd.ntmps5
        go_wp2_with (go_at_call 7; refine hA.mono ?_; rintro e w1 ⟨rfl, hb1⟩)
        go_ret
        exact ⟨rfl, hb1⟩
set_option maxRecDepth 20000 in
theorem one_no (a : String → Addr) (g : Int) (hg : ¬ ∃ k : Nat, g = k ∧ okN k) (s1 s2 : Option Addr) (la ca lb cb : Nat) (h1 : 1 ≤ la) (h2 : la ≤ 60) (h3 : lb ≤ 80) (w : World) (hw : Base a w) :
    Calls Tryd.prog 5 #[.int .i64 g, .slice s1 la ca, .slice s2 lb cb] w fun e w' => e = .returned (.bool true) ∧ Below w.heap.size w w' := by
  have hA := alive_any a w hw
  have cN : ∀ W, Below w.heap.size w W → Calls Tryd.prog 9 #[.int .i64 g] W fun e w' => e = .returned (.tuple #[.pointer none, errs.errV (a "ambler/api.ErrRange")]) ∧ Below W.heap.size W w' := fun W hb => (new_no g hg W _ (errs6 (hw.errs.below hb)).two.range).mono fun e w' ⟨h, q, hq⟩ => ⟨h, by rw [hq]; exact below_drewN' _ _⟩
  have d1 : decide ((la : Int) < 1) = false := decide_eq_false (by omega)
  have d2 : decide (60 < (la : Int)) = false := decide_eq_false (by omega)
  have d3 : decide (80 < (lb : Int)) = false := decide_eq_false (by omega)
  clear hw hg
  go_enter Tryd.func5, Tryd.ntmps5
  go_wp2_with (first
    | (go_at_call 7; refine hA.mono ?_; rintro e w1 ⟨rfl, hb1⟩))
  refine (cN _ hb1).mono ?_
  rintro e w2 ⟨rfl, hb2⟩
  have hb2' := under.below_step hb1 hb2
  go_wp2_with (fail)
  refine (cN _ hb2').mono ?_
  rintro e w3 ⟨rfl, hb3⟩
  go_wp2
  go_ret
  exact ⟨rfl, under.below_step hb2' hb3⟩
set_option maxRecDepth 20000 in
set_option maxHeartbeats 4000000 in
theorem one_few (a : String → Addr) (n : Nat) (hn : okN n) (s1 s2 : Option Addr) (la ca lb cb : Nat) (hz : Nat → Nat) (az : Nat → Ac) (h1 : 1 ≤ la) (h2 : la ≤ 60) (h3 : lb ≤ 80) (w : World) (hw : Base a w) (hH : HashAt s1 la w hz) (hA : ActAt s2 lb w az) :
    Calls Tryd.prog 5 #[.int .i64 n, .slice s1 la ca, .slice s2 lb cb] w fun e w' => e = .returned (.bool true) ∧ Below w.heap.size w w' := by
  have hAl := alive_any a w hw
  have HW := Lib.hid hw
  have HH := Lib.hid hH
  have HA := Lib.hid hA
  have d1 : decide ((la : Int) < 1) = false := decide_eq_false (by omega)
  have d2 : decide (60 < (la : Int)) = false := decide_eq_false (by omega)
  have d3 : decide (80 < (lb : Int)) = false := decide_eq_false (by omega)
  clear hw hH hA
  go_enter Tryd.func5, Tryd.ntmps5
  go_wp2_with (first
    | (go_at_call 7; refine hAl.mono ?_; rintro e w1 ⟨rfl, hb1⟩))
  refine (new_yes n hn _).mono ?_
  rintro e w2 ⟨rfl, ht2, hb2⟩
  go_wp2_with (fail)
  refine (new_yes n hn _).mono ?_
  rintro e w3 ⟨rfl, ht3, hb3⟩
  have hL0 := L2.start ht2 hb2 (Tb.Ok.new hn) (by omega) (Nat.le_refl _) ht3 hb3 (by omega) (Nat.le_refl _)
  go_wp2_with (fail)
  generalize w3.alloc (.cells #[.pointer none] 39) = W0 at hL0 ⊢
  generalize w3.heap.size = Bl at hL0 ⊢
  generalize w2.heap.size + 1 = T2 at hL0 ⊢
  generalize w2.heap.size = B2 at hL0 ⊢
  generalize w1.heap.size + 1 = T1 at hL0 ⊢
  generalize hB1 : w1.heap.size = B1 at hL0 ⊢
  have HW1 := Lib.hid (HW.out.below hb1)
  have HH1 := Lib.hid (HH.out.below hb1)
  have HA1 := Lib.hid (HA.out.below hb1)
  have HB1 := Lib.hid hb1
  have HI := Lib.hid (show OneI w1 T1 B1 T2 B2 Bl la n (hOf la hz) W0 from ⟨_, _, hL0, Rep.new hn _, rfl, fun _ _ => rfl⟩)
  clear ht2 hb2 ht3 hb3 hL0 hAl hb1 hB1 HH HA HW
  go_loopw [83] (fun i wr => ∃ k : Nat, k ≤ lb ∧ i = .int .i64 k ∧ Hid (OneI w1 T1 B1 T2 B2 Bl la n (hOf la hz) wr)) (fun i _ => lb - (intOf i).toNat)
  case atStart => exact ⟨0, by omega, rfl, HI⟩
  case round =>
    obtain ⟨k, hk, rfl, HO⟩ := hrel
    rcases Nat.lt_or_ge k lb with hkl | hkl
    · obtain ⟨⟨x, rfl, hcs⟩, b1, b2, b3, b4⟩ := HA1.out k hkl
      obtain ⟨t, M, hL, hR, htn, hM⟩ := HO.out
      obtain ⟨c0, c1, c2⟩ := hcs _ hL.below
      have hki : (k : Int) < (lb : Int) := by omega
      have hkw : k + 1 ≤ lb := by omega
      have hkz : kN (az k).key la < la := kN_lt _ h1
      have hzz : hz (kN (az k).key la) < 18446744073709551616 := by obtain ⟨_, _, h, _⟩ := HH1.out _ hkz; exact h
      have cE := fun W (hb : Below w1.heap.size w1 W) => entry_any s1 la ca hz h1 (by omega) (az k).kind (az k).key (az k).n W (HH1.out.below hb)
      have hv := uN_lt (az k).n
      have eH : hOf la hz (kN (az k).key la) = hz (kN (az k).key la) := hOf_lt hkz
      generalize kN (az k).key la = ki at *
      generalize uN (az k).n = vn at *
      generalize hz ki = hh at *
      generalize (az k).kind = kd at *
      generalize (az k).key = ky at *
      generalize (az k).n = nn at *
      have HL := Lib.hid hL
      have HR := Lib.hid hR
      have HM := Lib.hid hM
      have HE := Lib.hid eH
      have HT := Lib.hid htn
      clear hL hR hM HO hcs b1 b2 b3 b4 eH htn HI
      by_cases k0 : kd = 0
      · subst k0
        obtain ⟨M', hR', hM'⟩ := HR.out.puts_any (key := ki) (v := vn) (by omega) (by rw [HE.out]; exact hzz) hv
        rw [HE.out] at hR'
        have hok := hR'.1.ok
        have hn' : (t.puts ki hh vn).n = n := by rw [puts_n]; exact HT.out
        have hpe := putE_le' t ki hh
        have cP1 := fun W (h : L2 w1 T1 B1 T2 B2 Bl t t W) => put_nil (h.r1 HW1.out) ki hh vn (by omega) hzz hv
        have cP2 := fun W (h : L2 w1 T1 B1 T2 B2 Bl (t.puts ki hh vn) t W) => put_nil (h.r2 HW1.out) ki hh vn (by omega) hzz hv
        generalize t.puts ki hh vn = t' at *
        generalize putB' t ki hh = pb at *
        generalize putE' t ki hh = pe at *
        have hpe' : pe ≤ 16 := by omega
        have HRN := Lib.hid (show Rep (hOf la hz) t' M' ∧ t'.n = n ∧ ∀ k, la ≤ k → M' k = none from ⟨hR', hn', fun k hk => by rw [hM' k (by omega)]; exact HM.out k hk⟩)
        clear hR' hM' hn' hpe
        go_wp2_with (first
          | (go_at_call 21; refine (cE _ (under.below_step HL.out.below (new_block wr _))).mono ?_; rintro e w4 ⟨rfl, hb4⟩; have hL4 := (HL.out.read (new_block wr (.cells #[.int .i64 0, .int .i64 ky, .int .i64 nn] 56))).read hb4; have hV4 := EBox.new ki vn hh w4; have hL5 := hL4.read (new_block w4 (.cells #[.int .u64 (ki : Nat), .int .u64 (vn : Nat), .int .u64 (hh : Nat)] 42)); have x0 := keepc (new_block w4 (.cells #[.int .u64 (ki : Nat), .int .u64 (vn : Nat), .int .u64 (hh : Nat)] 42)) (keepc hb4 (act0 0 ky nn wr)); have y0 := hV4.c0; have y1 := hV4.c1; have y2 := hV4.c2; have yl := hL5.cl)
          | (go_at_call 24; (with_reducible refine (cP1 _ hL5).mono ?_); rintro e w6 ⟨rfl, hs6⟩; have hL6 := hL5.s1 hok hs6; have hV6 := hV4.past hs6.past (hL4.new1 (Nat.le_refl _)); have z0 := hV6.c0; have z1 := hV6.c1; have z2 := hV6.c2; have zl := hL6.cl)
          | (go_at_call 24; (with_reducible refine (cP2 _ hL6).mono ?_); rintro e w7 ⟨rfl, hs7⟩; have hL7 := hL6.s2 hok hs7)
          | (go_at_call 10; refine (num_err a pe hpe' _ (HW1.out.below hL8.below).errs).mono ?_; rintro e w9 ⟨rfl, hb9⟩; have hL9 := hL8.read hb9)
          | (go_at_call 10; refine (num_err a pe hpe' _ (HW1.out.below hL7.below).errs).mono ?_; rintro e w8 ⟨rfl, hb8⟩; have hL8 := hL7.read hb8))
        go_roundw
        case rel => exact ⟨k + 1, by omega, by simp, Lib.hid ⟨t', M', hL9, HRN.out⟩⟩
        case measure => simp [intOf]; omega
      · by_cases k1 : kd = 1
        · subst k1
          have hR' := HR.out.remove ki
          rw [HE.out] at hR'
          have hok := hR'.1.ok
          have hn' : (t.remove ki hh).n = n := by rw [remove_n]; exact HT.out
          have cD1 := fun W (h : L2 w1 T1 B1 T2 B2 Bl t t W) => delete_nil (h.r1 HW1.out) ki hh (by omega) hzz
          have cD2 := fun W (h : L2 w1 T1 B1 T2 B2 Bl (t.remove ki hh) t W) => delete_nil (h.r2 HW1.out) ki hh (by omega) hzz
          generalize t.remove ki hh = t' at *
          generalize (entOf t ki hh).key = ek at *
          generalize (entOf t ki hh).val = ev at *
          generalize (entOf t ki hh).hash = eh at *
          generalize isThere t ki hh = it at *
          have HRN := Lib.hid (show Rep (hOf la hz) t' (set M ki none) ∧ t'.n = n ∧ ∀ k, la ≤ k → set M ki none k = none from ⟨hR', hn', fun k hk => by rw [set_ne _ _ (by omega)]; exact HM.out k hk⟩)
          clear hR' hn'
          go_wp2_with (first
            | (go_at_call 21; refine (cE _ (under.below_step HL.out.below (new_block wr _))).mono ?_; rintro e w4 ⟨rfl, hb4⟩; have hL4 := (HL.out.read (new_block wr (.cells #[.int .i64 1, .int .i64 ky, .int .i64 nn] 56))).read hb4; have hV4 := EBox.new ki vn hh w4; have hL5 := hL4.read (new_block w4 (.cells #[.int .u64 (ki : Nat), .int .u64 (vn : Nat), .int .u64 (hh : Nat)] 42)); have x0 := keepc (new_block w4 (.cells #[.int .u64 (ki : Nat), .int .u64 (vn : Nat), .int .u64 (hh : Nat)] 42)) (keepc hb4 (act0 1 ky nn wr)); have y0 := hV4.c0; have y1 := hV4.c1; have y2 := hV4.c2; have yl := hL5.cl)
            | (go_at_call 25; (with_reducible refine (cD1 _ hL5).mono ?_); rintro e w6 ⟨rfl, hs6⟩; have hL6 := hL5.s1 hok hs6; have hV6 := (hV4.past hs6.past (hL4.new1 (Nat.le_refl _))).keep (new_block w6 (.cells #[.int .u64 (ek : Nat), .int .u64 (ev : Nat), .int .u64 (eh : Nat)] 42)); have hE6 := EBox.new ek ev eh w6; have hL6' := hL6.read (new_block w6 (.cells #[.int .u64 (ek : Nat), .int .u64 (ev : Nat), .int .u64 (eh : Nat)] 42)); have z0 := hV6.c0; have z1 := hV6.c1; have z2 := hV6.c2; have zl := hL6'.cl)
            | (go_at_call 25; (with_reducible refine (cD2 _ hL6').mono ?_); rintro e w7 ⟨rfl, hs7⟩; have hL7 := (hL6'.s2 hok hs7).read (new_block w7 (.cells #[.int .u64 (ek : Nat), .int .u64 (ev : Nat), .int .u64 (eh : Nat)] 42)); have hE7 := (hE6.past hs7.past (hL6.new2 (Nat.le_refl _))).keep (new_block w7 (.cells #[.int .u64 (ek : Nat), .int .u64 (ev : Nat), .int .u64 (eh : Nat)] 42)); have u0 := hE7.c0; have u1 := hE7.c1; have u2 := hE7.c2))
          go_roundw
          case rel => exact ⟨k + 1, by omega, by simp, Lib.hid ⟨t', _, hL7, HRN.out⟩⟩
          case measure => simp [intOf]; omega
        · have e0 : (kd == 0) = false := beq_eq_false_iff_ne.2 k0
          have e1 : (kd == 1) = false := beq_eq_false_iff_ne.2 k1
          clear k0 k1
          go_wp2_with (go_at_call 21; refine (cE _ (under.below_step HL.out.below (new_block wr _))).mono ?_; rintro e w4 ⟨rfl, hb4⟩; have hL4 := (HL.out.read (new_block wr (.cells #[.int .i64 kd, .int .i64 ky, .int .i64 nn] 56))).read hb4; have hV4 := EBox.new ki vn hh w4; have hL5 := hL4.read (new_block w4 (.cells #[.int .u64 (ki : Nat), .int .u64 (vn : Nat), .int .u64 (hh : Nat)] 42)); have x0 := keepc (new_block w4 (.cells #[.int .u64 (ki : Nat), .int .u64 (vn : Nat), .int .u64 (hh : Nat)] 42)) (keepc hb4 (act0 kd ky nn wr)); have y0 := hV4.c0; have y1 := hV4.c1; have y2 := hV4.c2; have yl := hL5.cl)
          go_roundw
          case rel => exact ⟨k + 1, by omega, by simp, Lib.hid ⟨t, M, hL5, HR.out, HT.out, HM.out⟩⟩
          case measure => simp [intOf]; omega
    · obtain rfl : k = lb := by omega
      obtain ⟨t, M, hL, hR, htn, hM⟩ := HO.out
      have HL := Lib.hid hL
      obtain ⟨xh, rfl, hzz, hx0⟩ := HH1.out 0 (by omega)
      have hadd : xh.add 0 = xh := add_zero' xh
      rw [hadd] at hx0
      have eF : hOf la hz 1099511627776 = hz 0 := by unfold hOf; rw [if_neg (by omega)]
      have hMF := hM 1099511627776 (by omega)
      obtain ⟨p1, p2⟩ := hR.puts (key := 1099511627776) (v := 1) (by decide) (by rw [eF]; exact hzz) (by decide)
      rw [eF, hMF] at p1 p2
      have hlen := texts_length t t.n
      have hn64 : t.n ≤ 64 := okN_le hL.ok1.n
      have hok := hL.ok1
      have hST := fun o1 o2 c1 c2 W h1 h2 => same_texts o1 o2 c1 c2 (texts t t.n) (by rw [hlen]; exact hn64) W h1 h2
      rw [hlen] at hST
      have HST := Lib.hid hST
      have HR := Lib.hid hR
      have HM := Lib.hid hM
      have HX := Lib.hid hx0
      clear hST hR hM HO hL HI hadd hx0 htn
      go_wp2_with (fail)
      refine (text_tab T1 B1 t hok _ HL.out.a1).mono ?_
      rintro e w4 ⟨v1, rfl, hk1, hb4⟩
      obtain ⟨o1, c1, rfl, ht1⟩ := KeptS.texts hk1
      rw [hlen]
      have hL4 := HL.out.read hb4
      have HT1 := Lib.hid ht1
      clear hk1 ht1
      go_wp2_with (fail)
      refine (text_tab T2 B2 t hok _ hL4.a2).mono ?_
      rintro e w5 ⟨v2, rfl, hk2, hb5⟩
      obtain ⟨o2, c2, rfl, ht2⟩ := KeptS.texts hk2
      rw [hlen]
      have hL5 := hL4.read hb5
      have HT2 := Lib.hid ht2
      have x0 := HX.out _ hL5.below
      clear hk2 ht2
      have cP := fun W (h : L2 w1 T1 B1 T2 B2 Bl t t W) => put_nil (h.r1 HW1.out) 1099511627776 (hz 0) 1 (by decide) hzz (by decide)
      by_cases hl : 1 ≤ t.left
      · obtain ⟨r1, r2, r3, r4, _⟩ := p1 (.inr hl)
        rw [r2, r3, show errAt a 0 = .nilIface from rfl] at cP
        simp only [Option.isSome_none, Bool.not_false] at cP r4
        have hR2 := r1.remove 1099511627776
        have hlen2 := r1.remove_len 1099511627776
        have hen := r1.ent (key := 1099511627776) (v := 1) (set_same _ _ _)
        have hit := r1.there 1099511627776
        rw [eF] at hR2 hlen2 hen hit
        rw [set_same] at hlen2 hit
        have hok1 := r1.1.ok
        have hok2 := hR2.1.ok
        have cD := fun W (h : L2 w1 T1 B1 T2 B2 Bl (t.puts 1099511627776 (hz 0) 1) t W) => delete_nil (h.r1 HW1.out) 1099511627776 (hz 0) (by decide) hzz
        rw [hen, hit] at cD
        simp only [Option.isSome_some] at cD
        have hl2 : (t.puts 1099511627776 (hz 0) 1 |>.remove 1099511627776 (hz 0)).len = t.len := by rw [hlen2, r4]; simp
        have hM2 : ∀ k, k < la → set (set M 1099511627776 (some 1)) 1099511627776 none k = M k := fun k hk => by rw [set_ne _ _ (by omega), set_ne _ _ (by omega)]
        have hMN : set (set M 1099511627776 (some 1)) 1099511627776 none 1099511627776 = none := set_same _ _ _
        generalize set (set M 1099511627776 (some 1)) 1099511627776 none = M2 at *
        generalize (t.puts 1099511627776 (hz 0) 1).remove 1099511627776 (hz 0) = t2 at *
        generalize t.puts 1099511627776 (hz 0) 1 = t1 at *
        have HM2 := Lib.hid hM2
        have HR2 := Lib.hid hR2
        have HMN := Lib.hid hMN
        clear p1 p2 r1 r2 r3 r4 hlen2 hen hit hM2 hR2 hMN hl hMF
        have HEF := Lib.hid eF
        clear eF
        have cL1 := fun W (h : L2 w1 T1 B1 T2 B2 Bl t t W) => len_any T1 B1 t W h.a1
        have cL2 := fun W (h : L2 w1 T1 B1 T2 B2 Bl t2 t W) => len_any T1 B1 t2 W h.a1
        rw [hl2] at cL2
        have hb6 := new_block w5 (.cells #[.int .u64 1099511627776, .int .u64 1, .int .u64 (hz 0 : Nat)] 42)
        have hL6 := hL5.read hb6
        have hVf : EBox w5.heap.size 1099511627776 1 (hz 0) (w5.alloc (.cells #[.int .u64 1099511627776, .int .u64 1, .int .u64 (hz 0 : Nat)] 42)) := EBox.new 1099511627776 1 (hz 0) w5
        have f0 := hVf.c0
        have f1 := hVf.c1
        have f2 := hVf.c2
        have fl := hL5.cl
        have flz := World.block_lt_of_cell? w5 _ hL5.cl
        have nf1 := hL5.new1 (Nat.le_refl _)
        have nf2 := hL5.new2 (Nat.le_refl _)
        go_wp2_with (first
          | (go_at_call 19; refine (HST.out _ _ _ _ _ (HT1.out.read hb5) HT2.out).mono ?_; rintro e w6 ⟨rfl, rfl⟩)
          | (go_at_call 24; refine (cP _ hL6).mono ?_; rintro e w7 ⟨rfl, hs7⟩; have hL7 := hL6.s1 hok1 hs7; have hVf7 := hVf.past hs7.past nf1; have f3 := hVf7.c0; have f4 := hVf7.c1; have f5 := hVf7.c2; have fl7 := hL7.cl; clear cL1)
          | (go_at_call 11; refine (cL1 _ hL5).mono ?_; rintro e w9 ⟨rfl, rfl⟩)
          | (go_at_call 25; refine (cD _ hL7).mono ?_; rintro e w8 ⟨rfl, hs8⟩; have hL8' := hL7.s1 hok2 hs8; have hb8 := new_block w8 (.cells #[.int .u64 1099511627776, .int .u64 1, .int .u64 (hz 0 : Nat)] 42); have hL8 := hL8'.read hb8; have hVx : EBox w8.heap.size 1099511627776 1 (hz 0) (w8.alloc (.cells #[.int .u64 1099511627776, .int .u64 1, .int .u64 (hz 0 : Nat)] 42)) := EBox.new 1099511627776 1 (hz 0) w8; have hVf8 := (hVf7.past hs8.past nf1).keep hb8; have g0 := hVf8.c0; have g1 := hVf8.c1; have g2 := hVf8.c2; have k0 := hVx.c0; have k1 := hVx.c1; have k2 := hVx.c2)
          | (go_at_call 11; refine (cL2 _ hL8).mono ?_; rintro e w10 ⟨rfl, rfl⟩))
        have HI := Lib.hid (show L2 w1 T1 B1 T2 B2 Bl t2 t _ ∧ EBox w5.heap.size 1099511627776 1 (hz 0) _ from ⟨hL8, hVf8⟩)
        clear hL8 hVf8 g0 g1 g2 k0 k1 k2 hVx hb8 hL8' hs8 fl7 f3 f4 f5 hVf7 hL7 hs7 fl flz f0 f1 f2 hVf hL6 hb6 cL2 cD cP x0 HT1 HT2 hL5 hL4 hb5 hb4 HST
        generalize w5.heap.size = Xf at *
        go_loopw [212] (fun i wr => ∃ k : Nat, k ≤ la ∧ i = .int .i64 k ∧ Hid (L2 w1 T1 B1 T2 B2 Bl t2 t wr ∧ EBox Xf 1099511627776 1 (hz 0) wr)) (fun i _ => la - (intOf i).toNat)
        case atStart => exact ⟨0, by omega, rfl, HI⟩
        case round =>
          obtain ⟨k, hk, rfl, HO⟩ := hrel
          rcases Nat.lt_or_ge k la with hkl | hkl
          · obtain ⟨x', hx', hzk, hck⟩ := HH1.out k hkl
            obtain rfl : xh = x' := Option.some.inj hx'
            have c0 := hck _ HO.out.1.below
            have hki : (k : Int) < (la : Int) := by omega
            have eu := u64_small k (by omega)
            have eH : hOf la hz k = hz k := hOf_lt hkl
            obtain ⟨e1, e2⟩ := Rep.same HR2.out HR.out (HM2.out k hkl)
            rw [eH] at e1 e2
            have cF1 := fun W (h : L2 w1 T1 B1 T2 B2 Bl t2 t W) => find_nil (h.r1 HW1.out) k (hz k) (by omega) hzk
            have cF2 := fun W (h : L2 w1 T1 B1 T2 B2 Bl t2 t W) => find_nil (h.r2 HW1.out) k (hz k) (by omega) hzk
            rw [← e1, ← e2] at cF2
            generalize (entOf t2 k (hz k)).key = ek at *
            generalize (entOf t2 k (hz k)).val = ev at *
            generalize (entOf t2 k (hz k)).hash = eh at *
            generalize isThere t2 k (hz k) = it at *
            generalize hz k = hh at *
            have HL := Lib.hid HO.out.1
            have y0 := HO.out.1.cl
            clear e1 e2 eH hck hx' hzk
            go_wp2_with (first
              | (go_at_call 16; (with_reducible refine (cF1 _ HL.out).mono ?_); rintro e w6 ⟨rfl, hb6⟩; have hE6 := EBox.new ek ev eh w6; have hb7 := under.below_step hb6 (new_block w6 (.cells #[.int .u64 (ek : Nat), .int .u64 (ev : Nat), .int .u64 (eh : Nat)] 42)); have hL6 := HL.out.read hb7; have y1 := hL6.cl)
              | (go_at_call 16; (with_reducible refine (cF2 _ hL6).mono ?_); rintro e w8 ⟨rfl, hb8⟩; have hb9 := under.below_step hb8 (new_block w8 (.cells #[.int .u64 (ek : Nat), .int .u64 (ev : Nat), .int .u64 (eh : Nat)] 42)); have hE8 := hE6.keep hb9; have hL8 := hL6.read hb9; have z0 := hE8.c0; have z1 := hE8.c1; have z2 := hE8.c2))
            go_roundw
            case rel => exact ⟨k + 1, by omega, by simp, Lib.hid ⟨hL8, (HO.out.2.keep hb7).keep hb9⟩⟩
            case measure => simp [intOf]; omega
          · obtain rfl : k = la := by omega
            have hL := HO.out.1
            have hV := HO.out.2
            have y0 := hL.cl
            have f0 := hV.c0
            have f1 := hV.c1
            have f2 := hV.c2
            have hit := HR2.out.there 1099511627776
            rw [HEF.out, HMN.out] at hit
            have cF := find_nil (hL.r1 HW1.out) 1099511627776 (hz 0) (by decide) hzz
            rw [hit] at cF
            simp only [Option.isSome_none] at cF
            clear hit
            go_wp2_with (go_at_call 16; refine cF.mono ?_; rintro e w6 ⟨rfl, hb6⟩)
            go_ret
            exact ⟨rfl, under.below_step HB1.out (hL.read hb6).below⟩
      · have hl0 : t.left = 0 := by have := hok.room; omega
        obtain ⟨q1, q2, q3⟩ := p2 rfl (by omega)
        rw [q1, q2, q3, show errAt a 2 = errs.errV (a (errs.nm 1)) from rfl] at cP
        have cL1 := fun W (h : L2 w1 T1 B1 T2 B2 Bl t t W) => len_any T1 B1 t W h.a1
        have cR := fun W (h : L2 w1 T1 B1 T2 B2 Bl t t W) => left_any T2 B2 t hok W h.a2
        rw [hl0] at cR
        have hL6 := hL5.read (new_block w5 (.cells #[.int .u64 1099511627776, .int .u64 1, .int .u64 (hz 0 : Nat)] 42))
        have fl := hL5.cl
        have flz := World.block_lt_of_cell? w5 _ hL5.cl
        clear p1 p2 q1 q2 q3 hl hl0 eF hMF hok
        go_wp2_with (first
          | (go_at_call 19; refine (HST.out _ _ _ _ _ (HT1.out.read hb5) HT2.out).mono ?_; rintro e w6 ⟨rfl, rfl⟩)
          | (go_at_call 24; refine (cP _ hL6).mono ?_; rintro e w7 ⟨rfl, hs7⟩; have hL7 := hL6.s1 hL6.ok1 hs7)
          | (go_at_call 22; refine (cR _ hL7).mono ?_; rintro e w8 ⟨rfl, q, rfl⟩; have hL8 := hL7.read (below_drewN' _ q))
          | (go_at_call 11; refine (cL1 _ hL8).mono ?_; rintro e w9 ⟨rfl, rfl⟩)
          | (go_at_call 11; refine (cL1 _ hL5).mono ?_; rintro e w9 ⟨rfl, rfl⟩))
        go_ret
        exact ⟨rfl, under.below_step HB1.out hL8.below⟩
theorem one_law (a : String → Addr) (g : Int) (s1 s2 : Option Addr) (la ca lb cb : Nat) (hz : Nat → Nat) (az : Nat → Ac) (w : World) (hw : Base a w) (hH : HashAt s1 la w hz) (hA : ActAt s2 lb w az) :
    Calls Tryd.prog 5 #[.int .i64 g, .slice s1 la ca, .slice s2 lb cb] w fun e w' => e = .returned (.bool true) ∧ Below w.heap.size w w' := by
  by_cases hc : la < 1 ∨ 60 < la ∨ 80 < lb
  · exact one_many a g s1 s2 la ca lb cb hc w hw
  · by_cases hg : ∃ k : Nat, g = k ∧ okN k
    · obtain ⟨n, rfl, hn⟩ := hg
      exact one_few a n hn s1 s2 la ca lb cb hz az (by omega) (by omega) (by omega) w hw hH hA
    · exact one_no a g hg s1 s2 la ca lb cb (by omega) (by omega) (by omega) w hw
end Go.Proofs.YtlgjmnckdjkngaaDoor.table
