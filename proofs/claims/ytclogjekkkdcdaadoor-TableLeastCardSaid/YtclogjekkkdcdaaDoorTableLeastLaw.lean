/- TableLeast: the walk. -/
import Derived.Test.YtclogjekkkdcdaaDoorTableOne
import Derived.Test.YtclogjekkkdcdaaDoorTableLeast
import Derived.Test.YtclogjekkkdcdaaDoorTableCnt
import Derived.LoopTactic
namespace Go.Proofs.YtclogjekkkdcdaaDoor.table
open Go.ChangeShapes Go.WideShapes Go.ChangeAt Go.RowKit Go.Shelf swar under trap meter group probe lens tail call split
attribute [local go_sem] Oper.semAt_some stage.pureUpon move.stepUpon
set_option linter.unusedSimpArgs false
set_option linter.unusedVariables false

/-- one table in blocks of its own, and the box of the lens -/
structure L1 (w : World) (T B Bl : Nat) (t : Tb) (W : World) : Prop where
  below : Below w.heap.size w W
  at' : TAt T B t W
  ok : t.Ok
  cl : W.cell? ⟨Bl, 0, none⟩ = some (.pointer none)
  h1 : w.heap.size ≤ T
  h2 : w.heap.size ≤ B
  h3 : w.heap.size ≤ Bl
  l1 : Bl ∉ [T, B]
section
variable {ae : String → Addr} {w : World} {T B Bl : Nat} {t t' : Tb} {W W' : World}
theorem L1.read (h : L1 w T B Bl t W) (hb : Below W.heap.size W W') : L1 w T B Bl t W' :=
  ⟨under.below_step h.below hb, h.at'.below hb, h.ok, keepc hb h.cl, h.h1, h.h2, h.h3, h.l1⟩
theorem L1.step (h : L1 w T B Bl t W) (ok : t'.Ok) (hs : TStep T B t' W W') : L1 w T B Bl t' W' :=
  ⟨h.below.trans (hs.past.below h.below.size (by simp; exact ⟨h.h1, h.h2⟩)), hs.at', ok, hs.past.cell h.cl h.l1, h.h1, h.h2, h.h3, h.l1⟩
theorem L1.r (h : L1 w T B Bl t W) (hw : Base ae w) : Ready ae T B t .nil .zero W := .nil hw h.below h.at' h.ok h.h1 h.h2
theorem L1.new (h : L1 w T B Bl t W) {X : Nat} (hX : W.heap.size ≤ X) : X ∉ [T, B] := by have := h.at'.lt; have := h.at'.lb; simp; omega
theorem L1.start {w1 : World} {t : Tb} (h1 : TAt T B t w1) (hb1 : Below w.heap.size w w1) (ok : t.Ok) (k1 : w.heap.size ≤ T) (k2 : w.heap.size ≤ B) :
    L1 w T B w1.heap.size t (w1.alloc (.cells #[.pointer none] 39)) := by
  have l1 := h1.lt
  have l2 := h1.lb
  have l6 := hb1.size
  exact ⟨under.below_step hb1 (new_block w1 _), h1.below (new_block w1 _), ok, newc w1 _ _, k1, k2, by omega, by simp; omega⟩
theorem L1.newset (h : L1 w T B Bl t W) {X : Nat} (hX : w.heap.size ≤ X) (hn : X ∉ [T, B]) (hb : X ≠ Bl) (i : Nat) (u : Value) : L1 w T B Bl t (W.setCell ⟨X, i, none⟩ u) := by
  have k : Past [X] W (W.setCell ⟨X, i, none⟩ u) := (Past.refl [X] W).store (.inl (by simp)) u
  refine ⟨bset h.below X i hX u, h.at'.past k ?_ ?_, h.ok, k.cell h.cl ?_, h.h1, h.h2, h.h3, h.l1⟩ <;> simp at hn ⊢ <;> omega
end
/-- between two rounds -/
def LsI (w : World) (T B Bl la : Nat) (H : Nat → Nat) (W : World) : Prop := ∃ t M, L1 w T B Bl t W ∧ RepN H la t M
theorem least_nil {ae : String → Addr} {T B : Nat} {t : Tb} {w : World} (h : Ready ae T B t .nil .zero w) (hash key : Nat) :
    Calls Tryd.prog 27 #[.pointer (some ⟨T, 0, none⟩), .agg #[.pointer none], .int .u64 (hash : Nat), .int .u64 (key : Nat)] w fun e w' => e = .returned (.tuple #[group.entV (sK (leastE t hash key)) (sV (leastE t hash key)) (sH (leastE t hash key)), .bool (leastE t hash key).isSome]) ∧ Below w.heap.size w w' :=
  (least_tab h hash key).mono fun e w' ⟨he, hs⟩ => ⟨he, LnStep.nilB hs⟩
set_option maxRecDepth 20000 in
theorem least_many (a : String → Addr) (g : Int) (s1 s2 : Option Addr) (la ca lb cb : Nat) (hc : la < 1 ∨ 60 < la ∨ 80 < lb) (w : World) (hw : Base a w) :
    Calls Tryd.prog 6 #[.int .i64 g, .slice s1 la ca, .slice s2 lb cb] w fun e w' => e = .returned (.bool true) ∧ Below w.heap.size w w' := by
  have hA := alive_any a w hw
  clear hw
  rcases hc with h | h | h
  · have d1 : decide ((la : Int) < 1) = true := decide_eq_true (by omega)
    go_enter Tryd.func6, Tryd.ntmps6
    go_wp2_with (go_at_call 7; refine hA.mono ?_; rintro e w1 ⟨rfl, hb1⟩)
    go_ret
    exact ⟨rfl, hb1⟩
  · have d1 : decide ((la : Int) < 1) = false := decide_eq_false (by omega)
    have d2 : decide (60 < (la : Int)) = true := decide_eq_true (by omega)
    go_enter Tryd.func6, Tryd.ntmps6
    go_wp2_with (go_at_call 7; refine hA.mono ?_; rintro e w1 ⟨rfl, hb1⟩)
    go_ret
    exact ⟨rfl, hb1⟩
  · have d3 : decide (80 < (lb : Int)) = true := decide_eq_true (by omega)
    by_cases h1 : la < 1
    · have d1 : decide ((la : Int) < 1) = true := decide_eq_true (by omega)
      go_enter Tryd.func6, Tryd.ntmps6
      go_wp2_with (go_at_call 7; refine hA.mono ?_; rintro e w1 ⟨rfl, hb1⟩)
      go_ret
      exact ⟨rfl, hb1⟩
    · have d1 : decide ((la : Int) < 1) = false := decide_eq_false (by omega)
      by_cases h2 : 60 < la
      · have d2 : decide (60 < (la : Int)) = true := decide_eq_true (by omega)
        go_enter Tryd.func6, Tryd.ntmps6
        go_wp2_with (go_at_call 7; refine hA.mono ?_; rintro e w1 ⟨rfl, hb1⟩)
        go_ret
        exact ⟨rfl, hb1⟩
      · have d2 : decide (60 < (la : Int)) = false := decide_eq_false (by omega)
        go_enter Tryd.func6, Tryd.ntmps6
        go_wp2_with (go_at_call 7; refine hA.mono ?_; rintro e w1 ⟨rfl, hb1⟩)
        go_ret
        exact ⟨rfl, hb1⟩
set_option maxRecDepth 20000 in
theorem least_no (a : String → Addr) (g : Int) (hg : ¬ ∃ k : Nat, g = k ∧ okN k) (s1 s2 : Option Addr) (la ca lb cb : Nat) (h1 : 1 ≤ la) (h2 : la ≤ 60) (h3 : lb ≤ 80) (w : World) (hw : Base a w) :
    Calls Tryd.prog 6 #[.int .i64 g, .slice s1 la ca, .slice s2 lb cb] w fun e w' => e = .returned (.bool true) ∧ Below w.heap.size w w' := by
  have hA := alive_any a w hw
  have cN : ∀ W, Below w.heap.size w W → Calls Tryd.prog 9 #[.int .i64 g] W fun e w' => e = .returned (.tuple #[.pointer none, errs.errV (a "ambler/api.ErrRange")]) ∧ Below W.heap.size W w' := fun W hb => (new_no g hg W _ (errs6 (hw.errs.below hb)).two.range).mono fun e w' ⟨h, q, hq⟩ => ⟨h, by rw [hq]; exact below_drewN' _ _⟩
  have d1 : decide ((la : Int) < 1) = false := decide_eq_false (by omega)
  have d2 : decide (60 < (la : Int)) = false := decide_eq_false (by omega)
  have d3 : decide (80 < (lb : Int)) = false := decide_eq_false (by omega)
  clear hw hg
  go_enter Tryd.func6, Tryd.ntmps6
  go_wp2_with (first
    | (go_at_call 7; refine hA.mono ?_; rintro e w1 ⟨rfl, hb1⟩))
  refine (cN _ hb1).mono ?_
  rintro e w2 ⟨rfl, hb2⟩
  have hb2' := under.below_step hb1 hb2
  go_wp2
  go_ret
  exact ⟨rfl, hb2'⟩
set_option maxRecDepth 20000 in
set_option maxHeartbeats 4000000 in
theorem least_few (a : String → Addr) (n : Nat) (hn : okN n) (s1 s2 : Option Addr) (la ca lb cb : Nat) (hz : Nat → Nat) (az : Nat → Ac) (h1 : 1 ≤ la) (h2 : la ≤ 60) (h3 : lb ≤ 80) (w : World) (hw : Base a w) (hH : HashAt s1 la w hz) (hA : ActAt s2 lb w az) :
    Calls Tryd.prog 6 #[.int .i64 n, .slice s1 la ca, .slice s2 lb cb] w fun e w' => e = .returned (.bool true) ∧ Below w.heap.size w w' := by
  have hAl := alive_any a w hw
  have HW := Lib.hid hw
  have HH := Lib.hid hH
  have HA := Lib.hid hA
  have d1 : decide ((la : Int) < 1) = false := decide_eq_false (by omega)
  have d2 : decide (60 < (la : Int)) = false := decide_eq_false (by omega)
  have d3 : decide (80 < (lb : Int)) = false := decide_eq_false (by omega)
  clear hw hH hA
  go_enter Tryd.func6, Tryd.ntmps6
  go_wp2_with (first
    | (go_at_call 7; refine hAl.mono ?_; rintro e w1 ⟨rfl, hb1⟩))
  refine (new_yes n hn _).mono ?_
  rintro e w2 ⟨rfl, ht2, hb2⟩
  have hL0 := L1.start ht2 hb2 (Tb.Ok.new hn) (by omega) (Nat.le_refl _)
  go_wp2_with (fail)
  generalize w2.alloc (.cells #[.pointer none] 39) = W0 at hL0 ⊢
  generalize w2.heap.size = Bl at hL0 ⊢
  generalize w1.heap.size + 1 = T at hL0 ⊢
  generalize hB1 : w1.heap.size = B at hL0 ⊢
  have HW1 := Lib.hid (HW.out.below hb1)
  have HH1 := Lib.hid (HH.out.below hb1)
  have HA1 := Lib.hid (HA.out.below hb1)
  have HB1 := Lib.hid hb1
  have HI := Lib.hid (show LsI w1 T B Bl la (hOf la hz) W0 from ⟨_, _, hL0, .new hn _⟩)
  clear ht2 hb2 hL0 hAl hb1 hB1 HH HA HW
  go_loopw [52] (fun i wr => ∃ k : Nat, k ≤ lb ∧ i = .int .i64 k ∧ Hid (LsI w1 T B Bl la (hOf la hz) wr)) (fun i _ => lb - (intOf i).toNat)
  case atStart => exact ⟨0, by omega, rfl, HI⟩
  case round =>
    obtain ⟨k, hk, rfl, HO⟩ := hrel
    rcases Nat.lt_or_ge k lb with hkl | hkl
    · obtain ⟨⟨x, rfl, hcs⟩, b1, b2, b3, b4⟩ := HA1.out k hkl
      obtain ⟨t, M, hL, hR⟩ := HO.out
      obtain ⟨c0, c1, c2⟩ := hcs _ hL.below
      have hki : (k : Int) < (lb : Int) := by omega
      have hkw : k + 1 ≤ lb := by omega
      have hkz : kN (az k).key la < la := kN_lt _ h1
      have hzz : hz (kN (az k).key la) < 18446744073709551616 := by obtain ⟨_, _, h, _⟩ := HH1.out _ hkz; exact h
      have cE := fun W (hb : Below w1.heap.size w1 W) => entry_any s1 la ca hz h1 (by omega) (az k).kind (az k).key (az k).n W (HH1.out.below hb)
      have hv := uN_lt (az k).n
      have eH : hOf la hz (kN (az k).key la) = hz (kN (az k).key la) := hOf_lt hkz
      generalize kN (az k).key la = ki at *
      generalize uN (az k).n = vn at *
      generalize hz ki = hh at *
      generalize (az k).kind = kd at *
      generalize (az k).key = ky at *
      generalize (az k).n = nn at *
      have HL := Lib.hid hL
      have HR := Lib.hid hR
      have HE := Lib.hid eH
      clear hL hR HO hcs b1 b2 b3 b4 eH HI
      by_cases k0 : kd = 0
      · subst k0
        obtain ⟨M', hR'⟩ := HR.out.puts (key := ki) (v := vn) hkz (by omega) (by rw [HE.out]; exact hzz) hv
        rw [HE.out] at hR'
        have hok := hR'.rep.1.ok
        have cP1 := fun W (h : L1 w1 T B Bl t W) => put_nil (h.r HW1.out) ki hh vn (by omega) hzz hv
        generalize t.puts ki hh vn = t' at *
        generalize putB' t ki hh = pb at *
        generalize putE' t ki hh = pe at *
        have HRN := Lib.hid hR'
        clear hR'
        go_wp2_with (first
          | (go_at_call 21; refine (cE _ (under.below_step HL.out.below (new_block wr _))).mono ?_; rintro e w4 ⟨rfl, hb4⟩; have hL4 := (HL.out.read (new_block wr (.cells #[.int .i64 0, .int .i64 ky, .int .i64 nn] 56))).read hb4; have hV4 := EBox.new ki vn hh w4; have hL5 := hL4.read (new_block w4 (.cells #[.int .u64 (ki : Nat), .int .u64 (vn : Nat), .int .u64 (hh : Nat)] 42)); have x0 := keepc (new_block w4 (.cells #[.int .u64 (ki : Nat), .int .u64 (vn : Nat), .int .u64 (hh : Nat)] 42)) (keepc hb4 (act0 0 ky nn wr)); have y0 := hV4.c0; have y1 := hV4.c1; have y2 := hV4.c2; have yl := hL5.cl)
          | (go_at_call 24; (with_reducible refine (cP1 _ hL5).mono ?_); rintro e w6 ⟨rfl, hs6⟩; have hL6 := hL5.step hok hs6))
        go_roundw
        case rel => exact ⟨k + 1, by omega, by simp, Lib.hid ⟨t', M', hL6, HRN.out⟩⟩
        case measure => simp [intOf]; omega
      · by_cases k1 : kd = 1
        · subst k1
          have hR' := HR.out.remove hkz
          rw [HE.out] at hR'
          have hok := hR'.rep.1.ok
          have cD1 := fun W (h : L1 w1 T B Bl t W) => delete_nil (h.r HW1.out) ki hh (by omega) hzz
          generalize t.remove ki hh = t' at *
          generalize (entOf t ki hh).key = ek at *
          generalize (entOf t ki hh).val = ev at *
          generalize (entOf t ki hh).hash = eh at *
          generalize isThere t ki hh = it at *
          have HRN := Lib.hid hR'
          clear hR'
          go_wp2_with (first
            | (go_at_call 21; refine (cE _ (under.below_step HL.out.below (new_block wr _))).mono ?_; rintro e w4 ⟨rfl, hb4⟩; have hL4 := (HL.out.read (new_block wr (.cells #[.int .i64 1, .int .i64 ky, .int .i64 nn] 56))).read hb4; have hV4 := EBox.new ki vn hh w4; have hL5 := hL4.read (new_block w4 (.cells #[.int .u64 (ki : Nat), .int .u64 (vn : Nat), .int .u64 (hh : Nat)] 42)); have x0 := keepc (new_block w4 (.cells #[.int .u64 (ki : Nat), .int .u64 (vn : Nat), .int .u64 (hh : Nat)] 42)) (keepc hb4 (act0 1 ky nn wr)); have y0 := hV4.c0; have y1 := hV4.c1; have y2 := hV4.c2; have yl := hL5.cl)
            | (go_at_call 25; (with_reducible refine (cD1 _ hL5).mono ?_); rintro e w6 ⟨rfl, hs6⟩; have hL6 := hL5.step hok hs6))
          go_roundw
          case rel => exact ⟨k + 1, by omega, by simp, Lib.hid ⟨t', _, hL6, HRN.out⟩⟩
          case measure => simp [intOf]; omega
        · have e0 : (kd == 0) = false := beq_eq_false_iff_ne.2 k0
          have e1 : (kd == 1) = false := beq_eq_false_iff_ne.2 k1
          clear k0 k1
          go_wp2_with (go_at_call 21; refine (cE _ (under.below_step HL.out.below (new_block wr _))).mono ?_; rintro e w4 ⟨rfl, hb4⟩; have hL4 := (HL.out.read (new_block wr (.cells #[.int .i64 kd, .int .i64 ky, .int .i64 nn] 56))).read hb4; have hV4 := EBox.new ki vn hh w4; have hL5 := hL4.read (new_block w4 (.cells #[.int .u64 (ki : Nat), .int .u64 (vn : Nat), .int .u64 (hh : Nat)] 42)); have x0 := keepc (new_block w4 (.cells #[.int .u64 (ki : Nat), .int .u64 (vn : Nat), .int .u64 (hh : Nat)] 42)) (keepc hb4 (act0 kd ky nn wr)); have y0 := hV4.c0; have y1 := hV4.c1; have y2 := hV4.c2; have yl := hL5.cl)
          go_roundw
          case rel => exact ⟨k + 1, by omega, by simp, Lib.hid ⟨t, M, hL5, HR.out⟩⟩
          case measure => simp [intOf]; omega
    · obtain rfl : k = lb := by omega
      obtain ⟨t, M, hL, hR⟩ := HO.out
      have hE0 := EBox.new 0 0 0 wr
      have hL1 := hL.read (new_block wr (.cells #[.int .u64 (0 : Nat), .int .u64 (0 : Nat), .int .u64 (0 : Nat)] 42))
      have hlt : Bl < wr.heap.size := World.block_lt_of_cell? wr _ hL.cl
      have hXn := hL.new (Nat.le_refl _)
      have hXl : wr.heap.size ≠ Bl := by omega
      have hXw := hL.below.size
      have HI0 := Lib.hid (And.intro hL1 hE0)
      have HR := Lib.hid hR
      have hHl : ∀ k, k < la → hOf la hz k < 18446744073709551616 := fun k hk => by
        obtain ⟨_, _, h, _⟩ := HH1.out _ hk
        rw [hOf_lt hk]; exact h
      have HHl := Lib.hid hHl
      clear hHl hE0 hL1 hL hR hlt HO HI
      go_wp2_with (fail)
      generalize wr.heap.size = X at *
      go_loopw [13, 15, 16] (fun vc vh vk wx => ∃ c hh ky lk lv lh : Nat, c ≤ la ∧ ky ≤ la ∧ vc = .int .i64 c ∧ vh = .int .u64 hh ∧ vk = .int .u64 ky ∧ Hid (L1 w1 T B Bl t wx ∧ EBox X lk lv lh wx ∧ c = cntL la M (hOf la hz) hh ky ∧ (0 < c → lk + 1 = ky ∧ lh = hh))) (fun vc _ _ _ => la - (intOf vc).toNat)
      case atStart => exact ⟨0, 0, 0, 0, 0, 0, by omega, by omega, rfl, rfl, rfl, Lib.hid ⟨HI0.out.1, HI0.out.2, (cntL_zero _ _ _).symm, fun h => absurd h (Nat.lt_irrefl 0)⟩⟩
      case round =>
        obtain ⟨c, hh, ky, lk, lv, lh, hc, hky, rfl, rfl, rfl, HJ⟩ := hrel
        have cLs := fun W (h : L1 w1 T B Bl t W) => least_nil (h.r HW1.out) hh ky
        have y0 := HJ.out.1.cl
        cases hE : leastE t hh ky with
        | none =>
          have hcm := least_none (la := la) HR.out.rep hE
          rw [hE] at cLs
          simp only [sK, sV, sH, Option.isSome_none] at cLs
          have cLen := fun W (h : L1 w1 T B Bl t W) => len_any T B t W h.at'
          have hlen : t.len = (c : Int) := by rw [HR.out.len, ← hcm, ← HJ.out.2.2.1]
          rw [hlen] at cLen
          clear hlen hcm
          go_wp2_with (first
            | (go_at_call 27; (with_reducible refine (cLs _ HJ.out.1).mono ?_); rintro e w4 ⟨rfl, hb4⟩; have hL4 := (HJ.out.1.read hb4).read (new_block w4 (.cells #[.int .u64 0, .int .u64 0, .int .u64 0] 42)))
            | (go_at_call 11; (with_reducible refine (cLen _ hL4).mono ?_); rintro e w5 ⟨rfl, rfl⟩))
          go_ret
          exact ⟨rfl, under.below_step HB1.out hL4.below⟩
        | some s =>
          obtain ⟨q1, q2, q3, q4, q5⟩ := least_some HR.out.rep HR.out.far hE
          rw [hE] at cLs
          simp only [sK, sV, sH, Option.isSome_some] at cLs
          have hent := HR.out.rep.ent q2
          have hthr := HR.out.rep.there s.key
          have hhl := HHl.out _ q1
          rw [← q3] at hent hthr hhl
          rw [q2] at hthr
          have cF := fun W (h : L1 w1 T B Bl t W) => find_nil (h.r HW1.out) s.key s.hash (by omega) hhl
          rw [hent, hthr] at cF
          simp only [Option.isSome_some] at cF
          have hc1 : c + 1 ≤ la := by rw [HJ.out.2.2.1, ← q5]; exact cntL_le _ _ _ _ _
          have d4 : decide ((la : Int) < (c : Int)) = false := decide_eq_false (by omega)
          have HC := Lib.hid (show c + 1 = cntL la M (hOf la hz) s.hash (s.key + 1) by rw [q5, ← HJ.out.2.2.1])
          have hbf : 0 < c → lessB lk lh s.key s.hash = true := fun hp => by
            obtain ⟨e1, e2⟩ := HJ.out.2.2.2 hp
            rw [Bool.eq_false_iff, Ne, lessB_iff] at q4
            rw [lessB_iff]; omega
          have HBF := Lib.hid hbf
          have hw1 : IntKind.u64.wrap ((s.key : Int) + 1) = (s.key : Int) + 1 := by rw [IntKind.wrap_u64]; omega
          clear hbf q2 q3 q4 q5 hent hthr hE
          generalize s.key = ek at *
          generalize s.val = ev at *
          generalize s.hash = eh at *
          by_cases c0 : c = 0
          · subst c0
            go_wp2_with (first
              | (go_at_call 27; (with_reducible refine (cLs _ HJ.out.1).mono ?_); rintro e w4 ⟨rfl, hb4⟩; have hE4 := EBox.new ek ev eh w4; have hne := (HJ.out.2.1.keep hb4).lt; have hL4 := (HJ.out.1.read hb4).read (new_block w4 (.cells #[.int .u64 (ek : Nat), .int .u64 (ev : Nat), .int .u64 (eh : Nat)] 42)); have hX4 := (HJ.out.2.1.keep hb4).keep (new_block w4 (.cells #[.int .u64 (ek : Nat), .int .u64 (ev : Nat), .int .u64 (eh : Nat)] 42)); have y1 := hL4.cl)
              | (go_at_call 16; (with_reducible refine (cF _ hL4).mono ?_); rintro e w6 ⟨rfl, hb6⟩; have hb7 := under.below_step hb6 (new_block w6 (.cells #[.int .u64 (ek : Nat), .int .u64 (ev : Nat), .int .u64 (eh : Nat)] 42)); have hE6 := hE4.keep hb7; have hL6 := hL4.read hb7; have hX6 := hX4.keep hb7; have z0 := hE6.c0; have z1 := hE6.c1; have z2 := hE6.c2; have x0 := hX6.c0; have x1 := hX6.c1; have x2 := hX6.c2; have xf := hX6.fz))
            have hE7 := hE6.other (Y := X) (by omega) ek ev eh
            have hX7 := hX6.set ek ev eh
            have hL7 := ((hL6.newset hXw hXn hXl 0 (.int .u64 (ek : Nat))).newset hXw hXn hXl 1 (.int .u64 (ev : Nat))).newset hXw hXn hXl 2 (.int .u64 (eh : Nat))
            obtain ⟨W7, hW7⟩ : ∃ W7, set3 X ek ev eh (w6.alloc (.cells #[.int .u64 (ek : Nat), .int .u64 (ev : Nat), .int .u64 (eh : Nat)] 42)) = W7 := ⟨_, rfl⟩
            rw [hW7] at hE7 hX7
            unfold set3 at hW7
            rw [hW7] at hL7 ⊢
            have v0 := hE7.c0
            have v2 := hE7.c2
            clear hE6 hL6 hX6 z0 z1 z2 x0 x1 x2 xf hE4 hL4 hX4 hW7 y1 hb7 hb6 cF cLs
            go_quiet (fail)
            go_wp2
            go_roundw
            case rel => exact ⟨0 + 1, eh, ek + 1, ek, ev, eh, hc1, by omega, by simp, rfl, by simp, Lib.hid ⟨hL7.read (below_drewN' _ _), hX7.keep (below_drewN' _ _), HC.out, fun _ => ⟨rfl, rfl⟩⟩⟩
            case measure => simp [intOf]; omega
          · have hcp : 0 < c := by omega
            have d5 : decide (0 < (c : Int)) = true := decide_eq_true (by omega)
            have hcw : IntKind.i64.wrap ((c : Int) + 1) = (c : Int) + 1 := IntWalk.i64_in _ (by omega)
            have cB : ∀ W, Calls Tryd.prog 28 #[.agg #[.int .u64 (lk : Nat), .int .u64 (lv : Nat), .int .u64 (lh : Nat)], .agg #[.int .u64 (ek : Nat), .int .u64 (ev : Nat), .int .u64 (eh : Nat)]] W fun e w' => e = .returned (.bool true) ∧ Below W.heap.size W w' := fun W => by have := before_any lk lv lh ek ev eh W; rw [HBF.out hcp] at this; exact this
            go_wp2_with (first
              | (go_at_call 27; (with_reducible refine (cLs _ HJ.out.1).mono ?_); rintro e w4 ⟨rfl, hb4⟩; have hE4 := EBox.new ek ev eh w4; have hne := (HJ.out.2.1.keep hb4).lt; have hL4 := (HJ.out.1.read hb4).read (new_block w4 (.cells #[.int .u64 (ek : Nat), .int .u64 (ev : Nat), .int .u64 (eh : Nat)] 42)); have hX4 := (HJ.out.2.1.keep hb4).keep (new_block w4 (.cells #[.int .u64 (ek : Nat), .int .u64 (ev : Nat), .int .u64 (eh : Nat)] 42)); have y1 := hL4.cl)
              | (go_at_call 16; (with_reducible refine (cF _ hL4).mono ?_); rintro e w6 ⟨rfl, hb6⟩; have hb7 := under.below_step hb6 (new_block w6 (.cells #[.int .u64 (ek : Nat), .int .u64 (ev : Nat), .int .u64 (eh : Nat)] 42)); have hE6 := hE4.keep hb7; have hL6 := hL4.read hb7; have hX6 := hX4.keep hb7; have z0 := hE6.c0; have z1 := hE6.c1; have z2 := hE6.c2; have x0 := hX6.c0; have x1 := hX6.c1; have x2 := hX6.c2; have xf := hX6.fz)
              | (go_at_call 28; (with_reducible refine (cB _).mono ?_); rintro e w8 ⟨rfl, hb8⟩; have hE8 := hE6.keep hb8; have hL8 := hL6.read hb8; have hX8 := hX6.keep hb8; have t0 := hE8.c0; have t1 := hE8.c1; have t2 := hE8.c2; have s0 := hX8.c0; have s1' := hX8.c1; have s2' := hX8.c2; have sf := hX8.fz))
            have hE7 := hE8.other (Y := X) (by omega) ek ev eh
            have hX7 := hX8.set ek ev eh
            have hL7 := ((hL8.newset hXw hXn hXl 0 (.int .u64 (ek : Nat))).newset hXw hXn hXl 1 (.int .u64 (ev : Nat))).newset hXw hXn hXl 2 (.int .u64 (eh : Nat))
            obtain ⟨W7, hW7⟩ : ∃ W7, set3 X ek ev eh w8 = W7 := ⟨_, rfl⟩
            rw [hW7] at hE7 hX7
            unfold set3 at hW7
            rw [hW7] at hL7 ⊢
            have v0 := hE7.c0
            have v2 := hE7.c2
            clear hE8 cB hL8 hX8 t0 t1 t2 s0 s1' s2' sf z0 z1 z2 x0 x1 x2 xf hE6 hL6 hX6 hE4 hL4 hX4 hW7 y1 hb7 hb6 cF cLs
            go_quiet (fail)
            go_wp2
            go_roundw
            case rel => exact ⟨c + 1, eh, ek + 1, ek, ev, eh, hc1, by omega, by simp, rfl, by simp, Lib.hid ⟨hL7.read (below_drewN' _ _), hX7.keep (below_drewN' _ _), HC.out, fun _ => ⟨rfl, rfl⟩⟩⟩
            case measure => simp [intOf]; omega
theorem least_law (a : String → Addr) (g : Int) (s1 s2 : Option Addr) (la ca lb cb : Nat) (hz : Nat → Nat) (az : Nat → Ac) (w : World) (hw : Base a w) (hH : HashAt s1 la w hz) (hA : ActAt s2 lb w az) :
    Calls Tryd.prog 6 #[.int .i64 g, .slice s1 la ca, .slice s2 lb cb] w fun e w' => e = .returned (.bool true) ∧ Below w.heap.size w w' := by
  by_cases hc : la < 1 ∨ 60 < la ∨ 80 < lb
  · exact least_many a g s1 s2 la ca lb cb hc w hw
  · by_cases hg : ∃ k : Nat, g = k ∧ okN k
    · obtain ⟨n, rfl, hn⟩ := hg
      exact least_few a n hn s1 s2 la ca lb cb hz az (by omega) (by omega) (by omega) w hw hH hA
    · exact least_no a g hg s1 s2 la ca lb cb (by omega) (by omega) (by omega) w hw
end Go.Proofs.YtclogjekkkdcdaaDoor.table
