/- CreditActs: the walk. -/
import Derived.Test.YtbldjegeaphocaaCreditKeeps
import Derived.Test.YtbldjegeaphocaaCreditRef
import Derived.Test.YtbldjegeaphocaaStage
import Derived.Test.YtbldjegeaphocaaTail
namespace Go.Proofs.Ytbldjegeaphocaa.credit
open Go.RowKit under trap flt tail
set_option linter.unusedSimpArgs false
set_option linter.unusedVariables false
attribute [local go_sem] run_store_f stage.pureUpon stage.callUpon

/-- an act in a block of its own -/
structure ActAt (X : Nat) (k n : Int) (f : Nat) (w : World) : Prop where
  k : w.cell? ⟨X, 0, none⟩ = some (.int .i64 k)
  n : w.cell? ⟨X, 1, none⟩ = some (.int .i64 n)
  f : w.cell? ⟨X, 2, none⟩ = some (.float .f64 f)
theorem ActAt.new (w : World) (k n : Int) (f : Nat) : ActAt w.heap.size k n f (w.alloc (.cells #[.int .i64 k, .int .i64 n, .float .f64 f] 32)) := by
  constructor <;> simp
theorem ActAt.past {X : Nat} {k n : Int} {f : Nat} {w w' : World} {d : List Nat} (h : ActAt X k n f w) (hp : Past d w w') (hd : X ∉ d) : ActAt X k n f w' := ⟨hp.cell h.k hd, hp.cell h.n hd, hp.cell h.f hd⟩
theorem ActAt.drew {X : Nat} {k n : Int} {f : Nat} {w : World} (h : ActAt X k n f w) : ActAt X k n f w.drew := ⟨h.k, h.n, h.f⟩
/-- the state behind j acts: both ledgers hold the same -/
structure ActsOk (w : World) (B : Nat) (l : Lg) (W : World) : Prop where
  ok : l.Ok
  at1 : LAt B 0 l W
  at2 : LAt (B + 1) 0 l W
  below : Below w.heap.size w W
theorem ActsOk.step {w W W' : World} {B : Nat} {l : Lg} (h : ActsOk w B l W) (hb : Below W.heap.size W W') : ActsOk w B l W' := ⟨h.ok, h.at1.below hb, h.at2.below hb, below_step h.below hb⟩
theorem ActsOk.drew {w W : World} {B : Nat} {l : Lg} (h : ActsOk w B l W) : ActsOk w B l W.drew := ⟨h.ok, h.at1.drew, h.at2.drew, h.below.drew⟩
theorem ActsOk.drewN {w W : World} {B : Nat} {l : Lg} (h : ActsOk w B l W) (q : Nat) : ActsOk w B l (W.drewN q) := ⟨h.ok, h.at1.drewN q, h.at2.drewN q, h.below.trans ⟨rfl, rfl, rfl, Nat.le_refl _, fun _ _ => rfl⟩⟩
theorem eq_self {l : Lg} (h : l.Ok) : FloatKind.f64.format.order l.r l.r = some .eq := order_self (by have := h.r1; unfold w1 at this; omega) (by have := h.r1; unfold w1 at this; unfold inf; omega)
theorem ActAt.drewN {X : Nat} {k n : Int} {f : Nat} {w : World} (h : ActAt X k n f w) (q : Nat) : ActAt X k n f (w.drewN q) := ⟨h.k, h.n, h.f⟩
/-- both ledgers' steps -/
theorem ActsOk.both {w W W1 W2 : World} {B : Nat} {l l' : Lg} (h : ActsOk w B l W) (hB : w.heap.size ≤ B) (ok : l'.Ok) (s1 : LStep B 0 l' W W1) (s2 : LStep (B + 1) 0 l' W1 W2) : ActsOk w B l' W2 :=
  ⟨ok, s1.at'.past s2.past (by simp), s2.at', h.below.trans ((s1.past.below h.below.size (by simpa using hB)).trans (s2.past.below (Nat.le_trans h.below.size s1.past.size) (by simp; omega)))⟩
theorem acts_many (s : Option Addr) (la ca : Nat) (h60 : 60 < la) (w : World) :
    Calls Try.prog 3 #[.slice s la ca] w fun e w' => e = .returned (.bool true) ∧ Below w.heap.size w w' := by
  have hA := alive_any w
  have h1 : (60 : Int) < (la : Int) := by omega
  go_enter Try.func3, Try.ntmps3
  go_wp2_with (go_at_call 7; refine hA.mono ?_; rintro e w1 ⟨rfl, hb1⟩)
  go_ret
  exact ⟨rfl, hb1⟩
set_option maxHeartbeats 4000000 in
set_option maxRecDepth 100000 in
theorem acts_few (s : Option Addr) (la ca : Nat) (kz nz : Nat → Int) (fz : Nat → Nat) (h60 : la ≤ 60) (w : World) (hA : ∀ j, j < la → ActCells s w j (kz j) (nz j) (fz j)) :
    Calls Try.prog 3 #[.slice s la ca] w fun e w' => e = .returned (.bool true) ∧ Below w.heap.size w w' := by
  have hAl := alive_any w
  have h1 : ¬ (60 : Int) < (la : Int) := by omega
  have HA := Lib.hid hA
  clear hA
  go_enter Try.func3, Try.ntmps3
  go_wp2_with (first
    | (go_at_call 7; refine hAl.mono ?_; rintro e w1 ⟨rfl, hb1⟩))
  have HS := Lib.hid (show ActsOk w w1.heap.size Lg.zero ((w1.alloc (.cells #[.int .i64 0, .float .f64 0] 27)).alloc (.cells #[.int .i64 0, .float .f64 0] 30)) from
    ⟨Lg.zero_ok, (LAt.new w1 _).below (new_block _ _), by have := LAt.new (w1.alloc (.cells #[.int .i64 0, .float .f64 0] 27)) 30; simpa using this, below_step (below_step hb1 (new_block _ _)) (new_block _ _)⟩)
  have HB := Lib.hid hb1.size
  clear hAl hb1
  generalize (w1.alloc (.cells #[.int .i64 0, .float .f64 0] 27)).alloc (.cells #[.int .i64 0, .float .f64 0] 30) = w2 at *
  generalize w1.heap.size = B at *
  go_loopw [21] (fun vj wr => ∃ (j : Nat) (l : Lg), j ≤ la ∧ vj = .int .i64 j ∧ ActsOk w B l wr) (fun vj _ => la - (intOf vj).toNat)
  case atStart => exact ⟨0, Lg.zero, by omega, rfl, HS.out⟩
  case round =>
    clear HS
    obtain ⟨j, l, hj, rfl, hp⟩ := hrel
    rcases Nat.lt_or_ge j la with hjl | hjl
    · obtain ⟨⟨x, rfl, hcs⟩, bn0, bn1, bf⟩ := HA.out j hjl
      obtain ⟨ck, cn, cf⟩ := hcs _ hp.below
      have hji : (j : Int) < (la : Int) := by omega
      have hw1 : j + 1 ≤ la := by omega
      have hBl := hp.at2.lt
      have hx0 := World.block_lt_of_cell? wr _ ck
      generalize hgk : kz j = k at *
      generalize hgn : nz j = n at *
      generalize hgf : fz j = f at *
      clear hgk hgn hgf hcs
      have HP := Lib.hid (hp.step (new_block wr (.cells #[.int .i64 k, .int .i64 n, .float .f64 f] 32)))
      have HW := Lib.hid hBl
      clear hp hBl
      have hact : ActAt wr.heap.size k n f (wr.alloc (.cells #[.int .i64 k, .int .i64 n, .float .f64 f] 32)) := ActAt.new wr k n f
      have hXB : B + 1 < wr.heap.size := HW.out
      by_cases k0 : k = 0
      · subst k0
        go_wp2
        generalize wr.alloc (.cells #[.int .i64 0, .int .i64 n, .float .f64 f] 32) = W0 at hact HP ⊢
        obtain ⟨D, d0, c1, c2, d2, dA, hne⟩ := stage.pair (S2 := fun w' => ActsOk w B (l.dep n) w' ∧ ActAt wr.heap.size 0 n f w') (deposit_any B 0 l HP.out.ok n W0.drew HP.out.drew.at1)
          (fun wa s1 => (rdeposit_any (B + 1) 0 l HP.out.ok n wa (HP.out.drew.at2.past s1.past (by simp))).mono fun e w' ⟨he, s2⟩ => ⟨he, HP.out.drew.both HB.out (HP.out.ok.dep n) s1 s2, (hact.drew.past s1.past (by simp; omega)).past s2.past (by simp; omega)⟩)
        have hn := dA (fun w' => w'.cell? ⟨wr.heap.size, 1, none⟩ = some (.int .i64 n)) hact.drew.n (fun w' s1 => (hact.drew.past s1.past (by simp; omega)).n) (fun w' h => h.2.n)
        have C1 := Lib.hid c1
        have C2 := Lib.hid c2
        have D2 := Lib.hid d2
        clear c1 c2 d2 dA hact
        refine stage.wp_region_stages (D := D) [false, false, false, true, false, false, false, true, false, false] (by kernel_rfl) (by kernel_rfl) d0 ?_
        clear d0
        iterate 3 (refine stage.pure_step (fun K hK => ?_); go_simp; refine hK _ ?_; clear hK K)
        refine stage.call_step (v := .int .i64 (dep l.b n)) (by kernel_rfl) (fun wd hd => ?_) (fun K hK => ?_)
        · go_simp
          exact C1.out _ hd
        refine hK _ ?_
        clear hK K
        go_simp
        iterate 3 (refine stage.pure_step (fun K hK => ?_); go_simp; refine hK _ ?_; clear hK K)
        refine stage.call_step (v := .int .i64 (dep l.b n)) (by kernel_rfl) (fun wd hd => ?_) (fun K hK => ?_)
        · go_simp
          exact C2.out _ hd
        refine hK _ ?_
        clear hK K
        go_simp
        iterate 2 (refine stage.pure_step (fun K hK => ?_); go_simp; refine hK _ ?_; clear hK K)
        refine stage.nil_step (fun w3 h3 => ?_)
        have HR := Lib.hid (D2.out _ h3).1
        clear C1 C2 D2 hn hne h3 HP
        generalize l.dep n = L at *
        generalize dep l.b n = d at *
        have y0 := HR.out.at2.b
        have y1 := HR.out.at2.r
        have r1 := eq_self HR.out.ok
        go_wp2
        go_quiet (first
          | (go_at_call 16; (with_reducible exact Calls.quiet_of_same (balance_any B 0 L _ (HR.out.at1.drewN _))))
          | (go_at_call 17; (with_reducible exact Calls.quiet_of_same (rest_any B 0 L _ (HR.out.at1.drewN _)))))
        clear y0 y1 r1
        go_wp2
        go_roundw
        case rel => exact ⟨j + 1, L, hw1, by simp, HR.out.drewN _⟩
        case measure => simp [intOf]; omega
      have q0 : (k == 0) = false := by simp; omega
      by_cases k1 : k = 1
      · subst k1
        go_wp2
        generalize wr.alloc (.cells #[.int .i64 1, .int .i64 n, .float .f64 f] 32) = W0 at hact HP ⊢
        obtain ⟨D, d0, c1, c2, d2, dA, hne⟩ := stage.pair (S2 := fun w' => ActsOk w B (l.earn f) w' ∧ ActAt wr.heap.size 1 n f w') (earn_any B 0 l HP.out.ok f bf W0.drew HP.out.drew.at1)
          (fun wa s1 => (rearn_any (B + 1) 0 l HP.out.ok f bf wa (HP.out.drew.at2.past s1.past (by simp))).mono fun e w' ⟨he, s2⟩ => ⟨he, HP.out.drew.both HB.out (HP.out.ok.earn f) s1 s2, (hact.drew.past s1.past (by simp; omega)).past s2.past (by simp; omega)⟩)
        have hn := dA (fun w' => w'.cell? ⟨wr.heap.size, 2, none⟩ = some (.float .f64 f)) hact.drew.f (fun w' s1 => (hact.drew.past s1.past (by simp; omega)).f) (fun w' h => h.2.f)
        have C1 := Lib.hid c1
        have C2 := Lib.hid c2
        have D2 := Lib.hid d2
        clear c1 c2 d2 dA hact
        refine stage.wp_region_stages (D := D) [false, false, false, true, false, false, false, true, false, false] (by kernel_rfl) (by kernel_rfl) d0 ?_
        clear d0
        iterate 3 (refine stage.pure_step (fun K hK => ?_); go_simp; refine hK _ ?_; clear hK K)
        refine stage.call_step (v := .int .i64 (l.earnN f)) (by kernel_rfl) (fun wd hd => ?_) (fun K hK => ?_)
        · go_simp
          exact C1.out _ hd
        refine hK _ ?_
        clear hK K
        go_simp
        iterate 3 (refine stage.pure_step (fun K hK => ?_); go_simp; refine hK _ ?_; clear hK K)
        refine stage.call_step (v := .int .i64 (l.earnN f)) (by kernel_rfl) (fun wd hd => ?_) (fun K hK => ?_)
        · go_simp
          exact C2.out _ hd
        refine hK _ ?_
        clear hK K
        go_simp
        iterate 2 (refine stage.pure_step (fun K hK => ?_); go_simp; refine hK _ ?_; clear hK K)
        refine stage.nil_step (fun w3 h3 => ?_)
        have HR := Lib.hid (D2.out _ h3).1
        clear C1 C2 D2 hn hne h3 HP
        generalize l.earn f = L at *
        generalize l.earnN f = d at *
        have y0 := HR.out.at2.b
        have y1 := HR.out.at2.r
        have r1 := eq_self HR.out.ok
        go_wp2
        go_quiet (first
          | (go_at_call 16; (with_reducible exact Calls.quiet_of_same (balance_any B 0 L _ (HR.out.at1.drewN _))))
          | (go_at_call 17; (with_reducible exact Calls.quiet_of_same (rest_any B 0 L _ (HR.out.at1.drewN _)))))
        clear y0 y1 r1
        go_wp2
        go_roundw
        case rel => exact ⟨j + 1, L, hw1, by simp, HR.out.drewN _⟩
        case measure => simp [intOf]; omega
      have q1 : (k == 1) = false := by simp; omega
      by_cases k2 : k = 2
      · subst k2
        by_cases hs : 0 ≤ n ∧ n ≤ l.b
        · have d1 : decide (0 ≤ n) = true := decide_eq_true hs.1
          have d2 : decide (n ≤ l.b) = true := decide_eq_true hs.2
          go_wp2
          generalize wr.alloc (.cells #[.int .i64 2, .int .i64 n, .float .f64 f] 32) = W0 at hact HP ⊢
          have y0 := HP.out.at2.b
          have y1 := hact.n
          go_quiet (fail)
          have HP2 := Lib.hid (HP.out.drewN nq)
          have hact2 := hact.drewN nq
          clear y0 y1 hact HP
          generalize W0.drewN nq = W1 at hact2 HP2 ⊢
          have y1 := hact2.n
          have hc := spend_any B 0 l HP2.out.ok n W1 HP2.out.at1
          rw [decide_eq_true hs] at hc
          have eS : l.spend n = ⟨l.b - n, l.r⟩ := by unfold Lg.spend; rw [if_pos hs]
          have hok := HP2.out.ok.spend n
          rw [eS] at hc hok
          have HC := Lib.hid hc
          have HO := Lib.hid hok
          clear hc eS hok
          go_wp2_with (go_at_call 12; (with_reducible refine HC.out.mono ?_); rintro e wa ⟨rfl, s1⟩)
          have hw2 := HP2.out.at2.past s1.past (by simp)
          have y0 := hw2.b
          have y2 := hw2.fz
          have y3 := (hact2.past s1.past (by simp; omega)).n
          have e0 : wrap64 (l.b - n) = l.b - n := IntWalk.wrap64_in _ (by have h1 := HO.out.b0; have h2 := HO.out.b1; have h3 : (Lg.mk (l.b - n) l.r).b = l.b - n := rfl; omega)
          have HT := Lib.hid (fun q => HP2.out.both HB.out HO.out s1 ((LStep.of hw2 (Below.refl _ wa)).drewN q |>.setB (l.b - n)))
          clear hw2 s1 HC HO y1 hact2 HP2
          refine wp_region_tail_drew 7 (by kernel_rfl) (by kernel_rfl) ?_
          simp only [List.take_succ_cons, List.take_zero, List.drop_succ_cons, List.drop_zero]
          repeat (quiet_step (fail))
          refine wpQuiet_nil ?_
          intro wb hwb
          obtain ⟨q, rfl⟩ := hwb
          have HR := Lib.hid (HT.out q)
          clear HT
          go_wp2_with (fail)
          rw [e0]
          clear y0 y2 y3 e0
          generalize ((wa.drewN q).setCell ⟨B + 1, 0, none⟩ (.int .i64 (l.b - n))) = wc at HR ⊢
          generalize (⟨l.b - n, l.r⟩ : Lg) = L at *
          have y0 := HR.out.at2.b
          have y1 := HR.out.at2.r
          have r1 := eq_self HR.out.ok
          go_wp2
          go_quiet (first
            | (go_at_call 16; (with_reducible exact Calls.quiet_of_same (balance_any B 0 L _ (HR.out.at1.drewN _))))
            | (go_at_call 17; (with_reducible exact Calls.quiet_of_same (rest_any B 0 L _ (HR.out.at1.drewN _)))))
          clear y0 y1 r1
          go_wp2
          go_roundw
          case rel => exact ⟨j + 1, L, hw1, by simp, HR.out.drewN _⟩
          case measure => simp [intOf]; omega
        · by_cases hs0 : 0 ≤ n
          · have d1 : decide (0 ≤ n) = true := decide_eq_true hs0
            have d2 : decide (n ≤ l.b) = false := decide_eq_false (by omega)
            go_wp2
            generalize wr.alloc (.cells #[.int .i64 2, .int .i64 n, .float .f64 f] 32) = W0 at hact HP ⊢
            have y0 := HP.out.at2.b
            have y1 := hact.n
            go_quiet (fail)
            have HP2 := Lib.hid (HP.out.drewN nq)
            have hact2 := hact.drewN nq
            clear y0 y1 hact HP
            generalize W0.drewN nq = W1 at hact2 HP2 ⊢
            have y1 := hact2.n
            have hc := spend_any B 0 l HP2.out.ok n W1 HP2.out.at1
            rw [decide_eq_false hs] at hc
            have eS : l.spend n = l := by unfold Lg.spend; rw [if_neg hs]
            rw [eS] at hc
            have HC := Lib.hid hc
            clear hc eS
            go_wp2_with (go_at_call 12; (with_reducible refine HC.out.mono ?_); rintro e wa ⟨rfl, s1⟩)
            have HR := Lib.hid (HP2.out.both HB.out HP2.out.ok s1 (LStep.of (HP2.out.at2.past s1.past (by simp)) (Below.refl _ wa)))
            clear s1 HC y1 hact2 HP2
            generalize hgL : l = L at *
            clear hgL
            have y0 := HR.out.at2.b
            have y1 := HR.out.at2.r
            have r1 := eq_self HR.out.ok
            go_wp2
            go_quiet (first
              | (go_at_call 16; (with_reducible exact Calls.quiet_of_same (balance_any B 0 L _ (HR.out.at1.drewN _))))
              | (go_at_call 17; (with_reducible exact Calls.quiet_of_same (rest_any B 0 L _ (HR.out.at1.drewN _)))))
            clear y0 y1 r1
            go_wp2
            go_roundw
            case rel => exact ⟨j + 1, L, hw1, by simp, HR.out.drewN _⟩
            case measure => simp [intOf]; omega
          · have d1 : decide (0 ≤ n) = false := decide_eq_false hs0
            go_wp2
            generalize wr.alloc (.cells #[.int .i64 2, .int .i64 n, .float .f64 f] 32) = W0 at hact HP ⊢
            have y0 := HP.out.at2.b
            have y1 := hact.n
            go_quiet (fail)
            have HP2 := Lib.hid (HP.out.drewN nq)
            have hact2 := hact.drewN nq
            clear y0 y1 hact HP
            generalize W0.drewN nq = W1 at hact2 HP2 ⊢
            have y1 := hact2.n
            have hc := spend_any B 0 l HP2.out.ok n W1 HP2.out.at1
            rw [decide_eq_false hs] at hc
            have eS : l.spend n = l := by unfold Lg.spend; rw [if_neg hs]
            rw [eS] at hc
            have HC := Lib.hid hc
            clear hc eS
            go_wp2_with (go_at_call 12; (with_reducible refine HC.out.mono ?_); rintro e wa ⟨rfl, s1⟩)
            have HR := Lib.hid (HP2.out.both HB.out HP2.out.ok s1 (LStep.of (HP2.out.at2.past s1.past (by simp)) (Below.refl _ wa)))
            clear s1 HC y1 hact2 HP2
            generalize hgL : l = L at *
            clear hgL
            have y0 := HR.out.at2.b
            have y1 := HR.out.at2.r
            have r1 := eq_self HR.out.ok
            go_wp2
            go_quiet (first
              | (go_at_call 16; (with_reducible exact Calls.quiet_of_same (balance_any B 0 L _ (HR.out.at1.drewN _))))
              | (go_at_call 17; (with_reducible exact Calls.quiet_of_same (rest_any B 0 L _ (HR.out.at1.drewN _)))))
            clear y0 y1 r1
            go_wp2
            go_roundw
            case rel => exact ⟨j + 1, L, hw1, by simp, HR.out.drewN _⟩
            case measure => simp [intOf]; omega
      have q2 : (k == 2) = false := by simp; omega
      by_cases k3 : k = 3
      · subst k3
        go_wp2
        generalize wr.alloc (.cells #[.int .i64 3, .int .i64 n, .float .f64 f] 32) = W0 at hact HP ⊢
        obtain ⟨D, d0, c1, c2, d2, dA, hne⟩ := stage.pair (S2 := fun w' => ActsOk w B (l.take n) w' ∧ ActAt wr.heap.size 3 n f w') (take_any B 0 l HP.out.ok n W0.drew HP.out.drew.at1)
          (fun wa s1 => (rtake_any (B + 1) 0 l HP.out.ok n wa (HP.out.drew.at2.past s1.past (by simp))).mono fun e w' ⟨he, s2⟩ => ⟨he, HP.out.drew.both HB.out (HP.out.ok.take n) s1 s2, (hact.drew.past s1.past (by simp; omega)).past s2.past (by simp; omega)⟩)
        have hn := dA (fun w' => w'.cell? ⟨wr.heap.size, 1, none⟩ = some (.int .i64 n)) hact.drew.n (fun w' s1 => (hact.drew.past s1.past (by simp; omega)).n) (fun w' h => h.2.n)
        have C1 := Lib.hid c1
        have C2 := Lib.hid c2
        have D2 := Lib.hid d2
        clear c1 c2 d2 dA hact
        refine stage.wp_region_stages (D := D) [false, false, false, true, false, false, false, true, false, false] (by kernel_rfl) (by kernel_rfl) d0 ?_
        clear d0
        iterate 3 (refine stage.pure_step (fun K hK => ?_); go_simp; refine hK _ ?_; clear hK K)
        refine stage.call_step (v := .int .i64 (takes l.b n)) (by kernel_rfl) (fun wd hd => ?_) (fun K hK => ?_)
        · go_simp
          exact C1.out _ hd
        refine hK _ ?_
        clear hK K
        go_simp
        iterate 3 (refine stage.pure_step (fun K hK => ?_); go_simp; refine hK _ ?_; clear hK K)
        refine stage.call_step (v := .int .i64 (takes l.b n)) (by kernel_rfl) (fun wd hd => ?_) (fun K hK => ?_)
        · go_simp
          exact C2.out _ hd
        refine hK _ ?_
        clear hK K
        go_simp
        iterate 2 (refine stage.pure_step (fun K hK => ?_); go_simp; refine hK _ ?_; clear hK K)
        refine stage.nil_step (fun w3 h3 => ?_)
        have HR := Lib.hid (D2.out _ h3).1
        clear C1 C2 D2 hn hne h3 HP
        generalize l.take n = L at *
        generalize takes l.b n = d at *
        have y0 := HR.out.at2.b
        have y1 := HR.out.at2.r
        have r1 := eq_self HR.out.ok
        go_wp2
        go_quiet (first
          | (go_at_call 16; (with_reducible exact Calls.quiet_of_same (balance_any B 0 L _ (HR.out.at1.drewN _))))
          | (go_at_call 17; (with_reducible exact Calls.quiet_of_same (rest_any B 0 L _ (HR.out.at1.drewN _)))))
        clear y0 y1 r1
        go_wp2
        go_roundw
        case rel => exact ⟨j + 1, L, hw1, by simp, HR.out.drewN _⟩
        case measure => simp [intOf]; omega
      have q3 : (k == 3) = false := by simp; omega
      by_cases k4 : k = 4
      · subst k4
        go_wp2
        generalize wr.alloc (.cells #[.int .i64 4, .int .i64 n, .float .f64 f] 32) = W0 at hact HP ⊢
        obtain ⟨D, d0, c1, d1, dA, hne⟩ := stage.one (S1 := fun w' => LStep B 0 Lg.zero W0.drew w' ∧ LAt (B + 1) 0 l w') ((drop_any B 0 l W0.drew HP.out.drew.at1).mono fun e w' ⟨he, s1⟩ => ⟨he, s1, HP.out.drew.at2.past s1.past (by simp)⟩)
        have hn := dA (fun w' => w'.cell? ⟨B + 1, 0, none⟩ = some (.int .i64 l.b)) HP.out.drew.at2.b (fun w' h => h.2.b)
        have C1 := Lib.hid c1
        have D1 := Lib.hid d1
        clear c1 d1 dA hact
        refine stage.wp_region_stages (D := D) [false, true, false, false, false, false, false, false] (by kernel_rfl) (by kernel_rfl) d0 ?_
        clear d0
        iterate 1 (refine stage.pure_step (fun K hK => ?_); go_simp; refine hK _ ?_; clear hK K)
        refine stage.call_step (v := .int .i64 l.b) (by kernel_rfl) (fun wd hd => ?_) (fun K hK => ?_)
        · go_simp
          exact C1.out _ hd
        refine hK _ ?_
        clear hK K
        go_simp
        iterate 6 (refine stage.pure_step (fun K hK => ?_); go_simp; refine hK _ ?_; clear hK K)
        refine stage.nil_step (fun w3 h3 => ?_)
        have h4 := D1.out _ h3
        have y0 := h4.2.b
        have y1 := h4.2.r
        have y2 := h4.2.fz
        have HR := Lib.hid (HP.out.drew.both HB.out Lg.zero_ok h4.1 (((LStep.of h4.2 (Below.refl _ w3)).setB 0).setR 0))
        clear C1 D1 hn hne h3 h4 HP
        go_wp2_with (fail)
        clear y0 y1 y2
        generalize ((w3.setCell ⟨B + 1, 0, none⟩ (.int .i64 0)).setCell ⟨B + 1, 0 + 1, none⟩ (.float .f64 0)) = w4 at HR ⊢
        generalize Lg.zero = L at *
        have y0 := HR.out.at2.b
        have y1 := HR.out.at2.r
        have r1 := eq_self HR.out.ok
        go_wp2
        go_quiet (first
          | (go_at_call 16; (with_reducible exact Calls.quiet_of_same (balance_any B 0 L _ (HR.out.at1.drewN _))))
          | (go_at_call 17; (with_reducible exact Calls.quiet_of_same (rest_any B 0 L _ (HR.out.at1.drewN _)))))
        clear y0 y1 r1
        go_wp2
        go_roundw
        case rel => exact ⟨j + 1, L, hw1, by simp, HR.out.drewN _⟩
        case measure => simp [intOf]; omega
      have q4 : (k == 4) = false := by simp; omega
      have HR := Lib.hid HP.out
      clear HP hact
      generalize hgL : l = L at *
      clear hgL
      go_wp2
      clear ck cn cf
      generalize wr.alloc (.cells #[.int .i64 k, .int .i64 n, .float .f64 f] 32) = W0 at HR ⊢
      have y0 := HR.out.at2.b
      have y1 := HR.out.at2.r
      have r1 := eq_self HR.out.ok
      go_wp2
      go_quiet (first
        | (go_at_call 16; (with_reducible exact Calls.quiet_of_same (balance_any B 0 L _ (HR.out.at1.drewN _))))
        | (go_at_call 17; (with_reducible exact Calls.quiet_of_same (rest_any B 0 L _ (HR.out.at1.drewN _)))))
      clear y0 y1 r1
      go_wp2
      go_roundw
      case rel => exact ⟨j + 1, L, hw1, by simp, HR.out.drewN _⟩
      case measure => simp [intOf]; omega
    · have hji : ¬ (j : Int) < (la : Int) := by omega
      have HN := Lib.hid hp.below
      clear hp
      go_wp2
      go_ret
      exact ⟨rfl, HN.out⟩
theorem acts_any (s : Option Addr) (la ca : Nat) (kz nz : Nat → Int) (fz : Nat → Nat) (w : World) (hA : ∀ j, j < la → ActCells s w j (kz j) (nz j) (fz j)) :
    Calls Try.prog 3 #[.slice s la ca] w fun e w' => e = .returned (.bool true) ∧ Below w.heap.size w w' := by
  rcases Nat.lt_or_ge 60 la with h | h
  · exact acts_many s la ca h w
  · exact acts_few s la ca kz nz fz h w hA
end Go.Proofs.Ytbldjegeaphocaa.credit
