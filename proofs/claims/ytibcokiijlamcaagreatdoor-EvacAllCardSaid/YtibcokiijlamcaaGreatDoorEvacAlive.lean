/- evac: the chapter's example. -/
import Derived.Test.YtibcokiijlamcaaGreatDoorEvacMove
import Derived.Test.YtibcokiijlamcaaGreatDoorEvacNew
import Derived.LoopTactic
namespace Go.Proofs.YtibcokiijlamcaaGreatDoor.evac
open Go.ChangeShapes Go.WideShapes Go.ChangeAt Go.RowKit Go.Shelf swar under trap meter group probe lens tail call table
attribute [local go_sem] Oper.semAt_some stage.pureUpon move.stepUpon
set_option linter.unusedSimpArgs false
set_option linter.unusedVariables false

/-- a meter without a limit: so many probes, visits, units -/
def Mk (p v k : Nat) : Mt := ⟨p, p, v, v, k, k, 0, false⟩
theorem sm_nat {a b : Nat} (h : a + b ≤ 1000000) : sm (a : Int) (b : Int) = ((a + b : Nat) : Int) := by
  unfold sm
  have h1 := cl_at (a : Int)
  have h2 := cl_at (b : Int)
  have h3 := cl_at (cl (a : Int) + cl (b : Int))
  omega
theorem Mk_probe {p v k : Nat} (h : p + 1 ≤ 1000000) : (Mk p v k).probes 1 = Mk (p + 1) v k := by
  unfold Mt.probes Mk
  simp only
  rw [show (1 : Int) = ((1 : Nat) : Int) from rfl, sm_nat h]
theorem Mk_visit {p v k : Nat} (h : v + 1 ≤ 1000000) : (Mk p v k).visits 1 = Mk p (v + 1) k := by
  unfold Mt.visits Mk
  simp only
  rw [show (1 : Int) = ((1 : Nat) : Int) from rfl, sm_nat h]
theorem Mk_unit {p v k : Nat} (h : k + 1 ≤ 1000000) : (Mk p v k).unit 1 = Mk p v (k + 1) := by
  show (Mk p v k).units 1 = _
  unfold Mt.units Mk
  simp only
  rw [show (1 : Int) = ((1 : Nat) : Int) from rfl, sm_nat h]
theorem Mk_E (p v k : Nat) : (Mk p v k).unitE 1 = 0 := rfl
theorem Mk_see {p v k : Nat} : ∀ j, v + j ≤ 1000000 → msee (Mk p v k) j = Mk p (v + j) k
  | 0, _ => rfl
  | j + 1, h => by
    rw [msee_add, Mk_see j (by omega), msee_one, Mk_visit (by omega)]; rfl
theorem Mk_ok {p v k : Nat} (h1 : p ≤ 1000000) (h2 : v ≤ 1000000) (h3 : k ≤ 1000000) : (Mk p v k).Ok := by
  constructor <;> simp only [Mk] <;> omega
theorem szEv : (Tryz.prog.info? 98).map (·.size) = some 6 := by kernel_rfl
theorem ev_some (x : Addr) (w : World) : (Op.equalIn 10000 27 (.pointer (some x)) (.pointer none)).run Tryz.prog w = .ok false w := by
  obtain ⟨j, hj, _⟩ := Option.map_eq_some_iff.1 szEv
  have h : ∀ d : Nat, (Op.equalIn (d + 1) 27 (.pointer (some x)) (.pointer none)).run Tryz.prog w = .ok false w := fun d => by
    simp [Op.equalIn, run_underlying Tryz.underlying27, sizeOf, typeInfo, hj, sameAddr]
  exact h 9999
theorem ev_none (w : World) : (Op.equalIn 10000 27 (.pointer none) (.pointer none)).run Tryz.prog w = .ok true w := by
  obtain ⟨j, hj, _⟩ := Option.map_eq_some_iff.1 szEv
  have h : ∀ d : Nat, (Op.equalIn (d + 1) 27 (.pointer none) (.pointer none)).run Tryz.prog w = .ok true w := fun d => by
    simp [Op.equalIn, run_underlying Tryz.underlying27, sizeOf, typeInfo, hj, sameAddr]
  exact h 9999
theorem all_mk (Bm p v k : Nat) (w : World) (h : MAt Bm 0 (Mk p v k) w) : Calls Tryz.prog 16 #[.pointer (some ⟨Bm, 0, none⟩)] w fun e w' => e = .returned (.agg #[.int .i64 (p : Nat), .int .i64 (v : Nat), .int .i64 (k : Nat)]) ∧ Below w.heap.size w w' := all_any Bm 0 (Mk p v k) w h
theorem fld2 (x y z : Value) (w : World) : (Instr.field 50 (.agg #[x, y, z]) 2).run Tryz.prog w = .ok z w := by kernel_rfl
/-! ### the example's tables -/
def aE : Nat → Tb
  | 0 => Tb.new 1
  | k + 1 => (aE k).puts k k 0
def aT (k : Nat) : Nat → Tb := fun i => if i = 0 then aE k else Tb.new 2
def aY (T0 B0 T1 B1 : Nat) : Lay := ⟨2, fun i => if i = 0 then T0 else T1, fun i => if i = 0 then B0 else B1, fun _ => ⟨0, 0, 0, fun _ => 0⟩, fun i => i + 1⟩
theorem aT_next (k : Nat) : up (aT k) 0 ((aT k 0).puts k k 0) = aT (k + 1) := by
  funext i; unfold up aT
  by_cases h : i = 0
  · rw [if_pos h, if_pos h]; rfl
  · rw [if_neg h, if_neg h, if_neg h]
theorem aE_put : ∀ k : Fin 2, putB' (aE k.val) k.val k.val = true ∧ putE' (aE k.val) k.val k.val = 0 ∧ looks (aE k.val) k.val k.val = 1 := by decide +kernel
theorem aE_goods : goods 2 0 (aT 2) (lst (aT 2) 0) = true ∧ lkc 2 0 (aT 2) (lst (aT 2) 0) ≤ 100 ∧ (tak (mvs 2 0 (aT 2) (lst (aT 2) 0)) 0 0).len = 0 ∧ (tak (mvs 2 0 (aT 2) (lst (aT 2) 0)) 0 1).len = 2 := by decide +kernel
section
variable {a : String → Addr} {w0 : World} {Y : Lay} {t : Nat → Tb} {W W' : World}
theorem Real.rdp (h : Real a w0 Y t W) {i : Nat} (hi : i < Y.N) {Bm : Nat} {m : Mt} (hm : MAt Bm 0 m W) (hb : w0.heap.size ≤ Bm) (ho : Bm ∉ Y.tall) : Ready a (Y.T i) (Y.B i) (t i) (.pr Bm 0) m W :=
  ⟨h.at' i hi, h.ok i hi, hm, (fun b hb' => by
    obtain rfl : b = Bm := by simpa [Ln.d] using hb'
    exact Ot.pair ho hi), h.base.bits.below h.bel h.base.bits.lt, (fun b hb' => by
    obtain rfl : b = Bm := by simpa [Ln.d] using hb'
    exact Nat.le_trans h.base.far hb), Nat.le_trans h.base.far (h.new _ (Lay.tin hi (by simp))), Nat.le_trans h.base.far (h.new _ (Lay.tin hi (by simp))), h.base.six.below h.bel⟩
theorem pput_any (h : Real a w0 Y t W) {i : Nat} (hi : i < Y.N) {Bm : Nat} {m : Mt} (hm : MAt Bm 0 m W) (hb : w0.heap.size ≤ Bm) (ho : Bm ∉ Y.tall) (key hs v : Nat) (hk : key < 18446744073709551616) (hh : hs < 18446744073709551616) (hv : v < 18446744073709551616) :
    Calls Tryz.prog 31 #[.pointer (some ⟨Y.T i, 0, none⟩), .agg #[.pointer (some ⟨Bm, 0, none⟩)], group.entV key v hs] W fun e w' => e = .returned (.tuple #[.bool (putB' (t i) key hs), errAt a (putE' (t i) key hs)]) ∧ Real a w0 Y (up t i ((t i).puts key hs v)) w' ∧ MAt Bm 0 ((Ln.pr Bm 0).see m (looks (t i) key hs)) w' :=
  (put_tab (h.rdp hi hm hb ho) key hs v hk hh hv).mono fun e w' ⟨he, hs'⟩ =>
    ⟨he, h.step hi hs'.ln.past hs'.at' ((h.ok i hi).puts hk hh hv) ((puts_n ..).trans (h.tn i hi)) (fun b hb' => by
      obtain rfl : b = Bm := by simpa [Ln.d] using hb'
      exact ⟨hb, ho⟩), hs'.ln.at'⟩
end
theorem aY_start {a : String → Addr} {w w1 w2 : World} (hw : Bq a w) {T0 B0 T1 B1 : Nat} (h1 : TAt T0 B0 (Tb.new 1) w1) (hb1 : Below w.heap.size w w1) (k1 : w.heap.size ≤ T0) (k2 : w.heap.size ≤ B0) (h2 : TAt T1 B1 (Tb.new 2) w2) (hb2 : Below w1.heap.size w1 w2) (k3 : w1.heap.size ≤ T1) (k4 : w1.heap.size ≤ B1) :
    Real a w (aY T0 B0 T1 B1) (aT 0) w2 := by
  have l1 := h1.lt
  have l2 := h1.lb
  have z := hb1.size
  have cs : ∀ i, i < 2 → i = 0 ∨ i = 1 := fun i hi => by omega
  refine ⟨fun i hi => ?_, fun i hi => ?_, fun i hi => ?_, fun i j hi hj hne b hb e => ?_, fun b hb => ?_, under.below_step hb1 hb2, hw⟩
  · rcases cs i hi with rfl | rfl
    · exact h1.below hb2
    · exact h2
  · rcases cs i hi with rfl | rfl
    · exact Tb.Ok.new (by decide)
    · exact Tb.Ok.new (by decide)
  · rcases cs i hi with rfl | rfl
    · rfl
    · rfl
  · have q : ∀ i, i < 2 → ∀ b ∈ [(aY T0 B0 T1 B1).T i, (aY T0 B0 T1 B1).B i], (i = 0 → b < w1.heap.size) ∧ (i = 1 → w1.heap.size ≤ b) := fun i hi b hb => by
      rcases cs i hi with rfl | rfl
      · have hb' : b = T0 ∨ b = B0 := by simpa [aY] using hb
        refine ⟨fun _ => ?_, fun e => (by cases e)⟩
        rcases hb' with rfl | rfl
        · exact l1
        · exact l2
      · have hb' : b = T1 ∨ b = B1 := by simpa [aY] using hb
        refine ⟨fun e => (by cases e), fun _ => ?_⟩
        rcases hb' with rfl | rfl
        · exact k3
        · exact k4
    have qi := q i hi b hb
    have qj := q j hj b e
    rcases cs i hi with rfl | rfl <;> rcases cs j hj with rfl | rfl
    · exact hne rfl
    · have := qi.1 rfl; have := qj.2 rfl; omega
    · have := qi.2 rfl; have := qj.1 rfl; omega
    · exact hne rfl
  · obtain ⟨i, hi, hb⟩ := List.mem_flatMap.1 hb
    have hi := List.mem_range.1 hi
    rcases cs i hi with rfl | rfl
    · have hb' : b = T0 ∨ b = B0 := by simpa [aY] using hb
      rcases hb' with rfl | rfl
      · exact k1
      · exact k2
    · have hb' : b = T1 ∨ b = B1 := by simpa [aY] using hb
      rcases hb' with rfl | rfl
      · omega
      · omega
theorem new_ex (n : Nat) (hn : okN n) (w : World) : Calls Tryz.prog 26 #[.int .i64 n] w fun e w' => ∃ T B, e = .returned (.tuple #[.pointer (some ⟨T, 0, none⟩), .nilIface]) ∧ TAt T B (Tb.new n) w' ∧ w.heap.size ≤ T ∧ w.heap.size ≤ B ∧ Below w.heap.size w w' :=
  (table.new_yes n hn w).mono fun e w' ⟨he, h1, h2⟩ => ⟨_, _, he, h1, by omega, Nat.le_refl _, h2⟩
theorem MAt.zero_new (w : World) : MAt w.heap.size 0 (Mk 0 0 0) (w.alloc (.cells #[.int .i64 0, .int .i64 0, .int .i64 0, .int .i64 0, .int .i64 0, .int .i64 0, .int .i64 0, .bool false] 36)) := MAt.new w
set_option maxRecDepth 100000 in
set_option maxHeartbeats 1000000 in
theorem alive_any (a : String → Addr) (w : World) (hw : Bq a w) : Calls Tryz.prog 7 #[] w fun e w' => e = .returned (.bool true) ∧ Below w.heap.size w w' := by
  have HW := Lib.hid hw
  have hts := tab_some
  have hes := ev_some
  have hfl := fld2
  have c1 : Calls Tryz.prog 26 #[.int .i64 1] w _ := new_ex 1 (by decide) w
  have c2 : ∀ W, Calls Tryz.prog 26 #[.int .i64 2] W _ := fun W => new_ex 2 (by decide) W
  clear hw
  go_enter Tryz.func7, Tryz.ntmps7
  go_wp2_with (first
    | (go_at_call 26; (with_reducible refine c1.mono ?_); rintro e w1 ⟨T0, B0, rfl, hT1, k1, k2, hb1⟩)
    | (go_at_call 26; (with_reducible refine (c2 _).mono ?_); rintro e w2 ⟨T1, B1, rfl, hT2, k3, k4, hb2⟩))
  have hR0 := aY_start HW.out hT1 hb1 k1 k2 hT2 hb2 k3 k4
  have hlt := hR0.lt
  have nB : w2.heap.size ∉ (aY T0 B0 T1 B1).tall := fun e => by have := hlt _ e; omega
  have hB0 : w.heap.size ≤ w2.heap.size := hR0.bel.size
  have hb3 := new_block w2 (.cells #[.int .i64 0, .int .i64 0, .int .i64 0, .int .i64 0, .int .i64 0, .int .i64 0, .int .i64 0, .bool false] 36)
  have HS0 := Lib.hid (And.intro (hR0.read hb3) (MAt.zero_new w2))
  clear hR0 hT1 hb1 k1 k2 hT2 hb2 k3 k4 hlt hb3 c1 c2
  generalize w2.alloc (.cells #[.int .i64 0, .int .i64 0, .int .i64 0, .int .i64 0, .int .i64 0, .int .i64 0, .int .i64 0, .bool false] 36) = W0 at HS0 ⊢
  generalize w2.heap.size = Bm at *
  go_loopw [35] (fun i wr => ∃ k : Nat, k ≤ 2 ∧ i = .int .u64 k ∧ Hid (Real a w (aY T0 B0 T1 B1) (aT k) wr ∧ MAt Bm 0 (Mk k 0 0) wr)) (fun i _ => 2 - (intOf i).toNat)
  case atStart => exact ⟨0, by omega, rfl, HS0⟩
  case round =>
    obtain ⟨k, hk, rfl, HR⟩ := hrel
    rcases Nat.lt_or_ge k 2 with hk2 | hk2
    · have hki : (k : Int) < 2 := by omega
      obtain ⟨e1, e2, e3⟩ := aE_put ⟨k, hk2⟩
      simp only at e1 e2 e3
      have cP := fun W (h : Real a w (aY T0 B0 T1 B1) (aT k) W ∧ MAt Bm 0 (Mk k 0 0) W) => pput_any h.1 (i := 0) (show 0 < 2 by decide) h.2 hB0 nB k k 0 (by omega) (by omega) (by decide)
      rw [aT_next, show aT k 0 = aE k from rfl, e1, e2, e3, show errAt a 0 = .nilIface from rfl, Ln.see_one, show (Ln.pr Bm 0).one (Mk k 0 0) = (Mk k 0 0).probes 1 from rfl, Mk_probe (by omega)] at cP
      simp only [show (aY T0 B0 T1 B1).T 0 = T0 from rfl] at cP
      have HC := HR.out
      clear e1 e2 e3
      have rd : ∀ (W W' : World), Real a w (aY T0 B0 T1 B1) (aT k) W ∧ MAt Bm 0 (Mk k 0 0) W → Below W.heap.size W W' → Real a w (aY T0 B0 T1 B1) (aT k) W' ∧ MAt Bm 0 (Mk k 0 0) W' := fun _ _ h hb => ⟨h.1.read hb, h.2.below hb⟩
      have RD := Lib.hid rd
      have HC' := Lib.hid HC
      clear HC rd HR
      go_wp2_with (first
        | (go_at_call 32; refine (probing_any Bm 0 _).mono ?_; rintro e w4 ⟨rfl, hb4⟩)
        | (go_at_call 31; refine (cP _ (RD.out _ _ HC'.out hb4)).mono ?_; rintro e w5 ⟨rfl, hr5, hm5⟩))
      go_roundw
      case rel => exact ⟨k + 1, by omega, by simp, Lib.hid ⟨hr5, hm5⟩⟩
      case measure => simp [intOf]; omega
    · obtain rfl : k = 2 := by omega
      clear HS0
      obtain ⟨g1, g2, g3, g4⟩ := aE_goods
      have hT0 := HR.out.1.at' 0 (show 0 < 2 by decide)
      have n1 : (aT 2 0).n = 1 := rfl
      have cN := fun (A : Nat) (c : Nat) (W : World) (hb : Below wr.heap.size wr W) (hx : W.cell? ⟨A, 0, none⟩ = some (.pointer (some ⟨T1, 0, none⟩))) => new_one T0 B0 _ 0 A 0 ⟨T1, 0, none⟩ c W (hT0.below hb) hx
      have lvv := World.alloc_heap_new wr (.cells #[.pointer (some ⟨T1, 0, none⟩)] 52)
      have hbA := new_block wr (.cells #[.pointer (some ⟨T1, 0, none⟩)] 52)
      have hxA := newc wr (.pointer (some ⟨T1, 0, none⟩)) 52
      clear hT0 lvv
      have nVl := HR.out.1.lt
      have mB := HR.out.2.lt
      have HC := Lib.hid HR.out
      have hzA := hbA.size
      clear HR
      go_wp2_with (go_at_call 27; refine (cN _ _ _ hbA hxA).mono ?_; rintro e w4 ⟨V, rfl, hrow, hV, hb4⟩)
      rw [n1] at hrow
      have hE4 : EvAt V (aY T0 B0 T1 B1) 0 0 w4 := ⟨hrow⟩
      have hb5 := under.below_step hbA hb4
      have nV : V ∉ Bm :: (aY T0 B0 T1 B1).tall := fun e => by
        have hz : wr.heap.size < (wr.alloc (.cells #[.pointer (some ⟨T1, 0, none⟩)] 52)).heap.size := by rw [World.size_alloc]; omega
        rcases List.mem_cons.1 e with rfl | e
        · omega
        · have := nVl _ e; omega
      have hV0 : w.heap.size ≤ V := by
        have := HC.out.1.bel.size
        omega
      have cS := (step_on V a w (aY T0 B0 T1 B1) (aT 2) (.inl rfl) 0 0 Bm (Mk 2 0 0) (by decide) (show 0 < 1 by decide) (Mk_ok (by decide) (by decide) (by decide)) (Mk_E _ _ _) w4 hE4 (HC.out.1.read hb5) (HC.out.2.below hb5) hB0 nB hV0 nV)
      have e2 : (aY T0 B0 T1 B1).N = 2 := rfl
      rw [e2, g1, Mk_unit (by decide), Mk_visit (by decide), Mk_see _ (by omega)] at cS
      generalize lkc 2 0 (aT 2) (lst (aT 2) 0) = lk at *
      generalize tak (mvs 2 0 (aT 2) (lst (aT 2) 0)) 0 = t2 at *
      have CS := Lib.hid (show Calls Tryz.prog 12 #[.pointer (some ⟨V, 0, none⟩), .pointer (some ⟨Bm, 0, none⟩)] w4 (fun e w' => e = .returned (.bool true) ∧ Real a w (aY T0 B0 T1 B1) t2 w' ∧ EvAt V (aY T0 B0 T1 B1) 0 1 w' ∧ MAt Bm 0 (Mk 2 (0 + 1 + lk) (0 + 1)) w') from cS.mono fun e w' h => by
        rcases h with ⟨_, h1, h2, h3, h4, _⟩ | ⟨hf, _⟩
        · exact ⟨h1, h2, h3, h4⟩
        · exact absurd hf (by decide))
      have G := Lib.hid (And.intro g3 g4)
      clear g1 g2 g3 g4 cS cN hbA hxA hrow hE4 hb4 hb5 nVl mB hzA n1 hV e2
      have nV2 : V ≠ Bm := fun e => nV (by rw [e]; exact List.mem_cons_self)
      go_wp2_with (first
        | (go_at_call 12; refine CS.out.mono ?_; clear CS; rintro e w5 ⟨rfl, hr5, hE5, hm5⟩; have cO := step_off V (aY T0 B0 T1 B1) 0 (show 0 + 1 ≤ 64 by decide) (some ⟨Bm, 0, none⟩) w5 hE5)
        | (go_at_call 12; refine cO.mono ?_; clear cO; rintro e w6 ⟨rfl, hb6⟩; have hr6 := hr5.read hb6; have hm6 := hm5.below hb6; have q1 := len_any T1 B1 _ w6 (hr6.at' 1 (show 1 < 2 by decide)); have q0 := len_any T0 B0 _ w6 (hr6.at' 0 (show 0 < 2 by decide)); rw [G.out.1] at q0; rw [G.out.2] at q1)
        | (go_at_call 24; (with_reducible refine q1.mono ?_); rintro e w7 ⟨rfl, rfl⟩)
        | (go_at_call 24; (with_reducible refine q0.mono ?_); rintro e w7 ⟨rfl, rfl⟩)
        | (go_at_call 16; refine (all_mk Bm 2 (0 + 1 + lk) 1 _ hm6).mono ?_; rintro e w8 ⟨rfl, hb8⟩))
      go_ret
      exact ⟨rfl, under.below_step hr6.bel hb8⟩
end Go.Proofs.YtibcokiijlamcaaGreatDoor.evac
