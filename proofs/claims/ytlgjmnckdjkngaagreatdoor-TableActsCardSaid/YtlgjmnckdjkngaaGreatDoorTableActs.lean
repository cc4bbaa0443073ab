/- TableActs: the walk. -/
import Derived.Test.YtlgjmnckdjkngaaGreatDoorTableDo
import Derived.Test.YtlgjmnckdjkngaaGreatDoorTableDo2
import Derived.Test.YtlgjmnckdjkngaaGreatDoorTableNew
import Derived.Test.YtlgjmnckdjkngaaGreatDoorTableEntry
import Derived.Test.YtlgjmnckdjkngaaGreatDoorTableAlive
import Derived.LoopTactic
namespace Go.Proofs.YtlgjmnckdjkngaaGreatDoor.table
open Go.ChangeShapes Go.WideShapes Go.ChangeAt Go.RowKit Go.Shelf swar under trap meter group probe lens tail call
attribute [local go_sem] Oper.semAt_some stage.pureUpon move.stepUpon
set_option linter.unusedSimpArgs false
set_option linter.unusedVariables false

theorem do_any {w0 : World} {ae : String → Addr} (hB : Base ae w0) {T B : Nat} {L : Ln} {m : Mt} {t : Tb} {f : Rf} {k : Nat} {w : World} (s : Two w0 ae T B L m t f t k w) (key h v : Nat) (kd ky nn : Int) (hk : k + 500 < 9223372036854775807) (hky : key < 18446744073709551616) (hh : h < 18446744073709551616) (hv : v < 18446744073709551616) :
    Calls Tryz.prog 8 #[.pointer (some ⟨T, 0, none⟩), .pointer (some ⟨f.R, 0, none⟩), .agg #[.pointer L.p], group.entV key v h, .agg #[.int .i64 kd, .int .i64 ky, .int .i64 nn]] w fun e w' => e = .returned (.bool true) ∧ ∃ t' n, n ≤ 64 ∧ t'.n = t.n ∧ Two w0 ae T B L (L.see m n) t' f t' (k + n) w' ∧ Past (Dn T B L f t.n) w w' := by
  by_cases h0 : kd = 0
  · subst h0; exact do_0 hB s key h v ky nn hk hky hh hv
  by_cases h1 : kd = 1
  · subst h1; exact do_1 hB s key h v ky nn hk hky hh hv
  by_cases h2 : kd = 2
  · subst h2; exact do_2 hB s key h v ky nn hk hky hh hv
  by_cases h3 : kd = 3
  · subst h3
    by_cases hi : nn < 0 ∨ (t.n : Int) ≤ nn
    · exact do_3off hB s key h v ky nn hk hky hh hv hi
    · exact do_3in hB s key h v ky nn hk hky hh hv nn.toNat (by omega) (by omega)
  by_cases h4 : kd = 4
  · subst h4
    by_cases hi : nn < 0
    · exact do_4neg hB s key h v ky nn hk hky hh hv hi
    · by_cases hj : (t.n : Int) ≤ nn
      · exact do_4big hB s key h v ky nn hk hky hh hv hj
      · exact do_4in hB s key h v ky nn hk hky hh hv nn.toNat (by omega) (by omega)
  by_cases h5 : kd = 5
  · subst h5; exact do_5 hB s key h v ky nn hk hky hh hv
  by_cases h6 : kd = 6
  · subst h6; exact do_6 hB s key h v ky nn hk hky hh hv
  by_cases h7 : kd = 7
  · subst h7; exact do_7 hB s key h v ky nn hk hky hh hv
  by_cases h8 : kd = 8
  · subst h8; exact do_8 hB s key h v ky nn hk hky hh hv
  exact do_else hB s key h v kd ky nn hk hky hh hv h0 h1 h2 h3 h4 h5 h6 h7 h8
theorem see_counts (B o : Nat) (m : Mt) {k : Nat} (hp : m.pa = k) (hv : m.va = 0) (hu : m.ua = 0) : ∀ c, k + c ≤ 1099511627776 → ((Ln.pr B o).see m c).pa = ((k + c : Nat) : Int) ∧ ((Ln.pr B o).see m c).va = 0 ∧ ((Ln.pr B o).see m c).ua = 0
  | 0, _ => ⟨hp, hv, hu⟩
  | c + 1, h => by
    obtain ⟨h1, h2, h3⟩ := see_counts B o m hp hv hu c (by omega)
    rw [Ln.see_succ]
    refine ⟨?_, h2, h3⟩
    show sm ((Ln.pr B o).see m c).pa 1 = _
    rw [h1, sm_add (by omega) (by omega) (by omega)]; omega
/-- between two acts -/
def Sa (w1 : World) (ae : String → Addr) (T B Bm : Nat) (f : Rf) (n j : Nat) (W : World) : Prop := ∃ t m k, k ≤ 64 * j ∧ t.n = n ∧ Two w1 ae T B (.pr Bm 0) m t f t k W ∧ m.pa = (k : Nat) ∧ m.va = 0 ∧ m.ua = 0
set_option maxRecDepth 20000 in
theorem acts_many (a : String → Addr) (g : Int) (s1 s2 : Option Addr) (la ca lb cb : Nat) (hc : la < 1 ∨ 100 < la ∨ 150 < lb ∨ (16 < g ∧ g ≤ 64)) (w : World) (hw : Base a w) :
    Calls Tryz.prog 3 #[.int .i64 g, .slice s1 la ca, .slice s2 lb cb] w fun e w' => e = .returned (.bool true) ∧ Below w.heap.size w w' := by
  have hA := alive_any a w hw
  clear hw
  have hq : la < 1 ∨ (1 ≤ la ∧ 100 < la) ∨ (1 ≤ la ∧ la ≤ 100 ∧ 150 < lb) ∨ (1 ≤ la ∧ la ≤ 100 ∧ lb ≤ 150 ∧ 16 < g ∧ g ≤ 64) := by omega
  clear hc
  rcases hq with h | h | h | h
  · have d1 : decide ((la : Int) < 1) = true := decide_eq_true (by omega)
    go_enter Tryz.func3, Tryz.ntmps3
    go_wp2_with (go_at_call 4; refine hA.mono ?_; rintro e w1 ⟨rfl, hb1⟩)
    go_ret
    exact ⟨rfl, hb1⟩
  · have d1 : decide ((la : Int) < 1) = false := decide_eq_false (by omega)
    have d2 : decide (100 < (la : Int)) = true := decide_eq_true (by omega)
    go_enter Tryz.func3, Tryz.ntmps3
    go_wp2_with (go_at_call 4; refine hA.mono ?_; rintro e w1 ⟨rfl, hb1⟩)
    go_ret
    exact ⟨rfl, hb1⟩
  · have d1 : decide ((la : Int) < 1) = false := decide_eq_false (by omega)
    have d2 : decide (100 < (la : Int)) = false := decide_eq_false (by omega)
    have d3 : decide (150 < (lb : Int)) = true := decide_eq_true (by omega)
    go_enter Tryz.func3, Tryz.ntmps3
    go_wp2_with (go_at_call 4; refine hA.mono ?_; rintro e w1 ⟨rfl, hb1⟩)
    go_ret
    exact ⟨rfl, hb1⟩
  · have d1 : decide ((la : Int) < 1) = false := decide_eq_false (by omega)
    have d2 : decide (100 < (la : Int)) = false := decide_eq_false (by omega)
    have d3 : decide (150 < (lb : Int)) = false := decide_eq_false (by omega)
    have d4 : decide (16 < g) = true := decide_eq_true (by omega)
    have d5 : decide (g ≤ 64) = true := decide_eq_true (by omega)
    go_enter Tryz.func3, Tryz.ntmps3
    go_wp2_with (go_at_call 4; refine hA.mono ?_; rintro e w1 ⟨rfl, hb1⟩)
    go_ret
    exact ⟨rfl, hb1⟩
set_option maxRecDepth 20000 in
theorem acts_no (a : String → Addr) (g : Int) (hg : ¬ ∃ k : Nat, g = k ∧ okN k) (hgn : ¬ (16 < g ∧ g ≤ 64)) (s1 s2 : Option Addr) (la ca lb cb : Nat) (h1 : 1 ≤ la) (h2 : la ≤ 100) (h3 : lb ≤ 150) (w : World) (hw : Base a w) :
    Calls Tryz.prog 3 #[.int .i64 g, .slice s1 la ca, .slice s2 lb cb] w fun e w' => e = .returned (.bool true) ∧ Below w.heap.size w w' := by
  have hA := alive_any a w hw
  have cN : ∀ W, Below w.heap.size w W → Calls Tryz.prog 5 #[.int .i64 g] W fun e w' => e = .returned (.tuple #[.pointer none, errAt a 1]) ∧ Below W.heap.size W w' := fun W hb => (new_no g hg W _ (errs6 (hw.errs.below hb)).two.range).mono fun e w' ⟨h, q, hq⟩ => ⟨h, by rw [hq]; exact below_drewN' _ _⟩
  have cM : ∀ W, Calls Tryz.prog 6 #[.int .i64 g] W fun e w' => e = .returned (.tuple #[.pointer none, .int .i64 1]) ∧ W = w' := fun W => rtnew_no g hg W
  have cE : ∀ W, Below w.heap.size w W → Calls Tryz.prog 7 #[errAt a 1] W fun e w' => e = .returned (.int .i64 1) ∧ Below W.heap.size W w' := fun W hb => num_err a 1 (by decide) W (hw.errs.below hb)
  have d1 : decide ((la : Int) < 1) = false := decide_eq_false (by omega)
  have d2 : decide (100 < (la : Int)) = false := decide_eq_false (by omega)
  have d3 : decide (150 < (lb : Int)) = false := decide_eq_false (by omega)
  clear hw hg
  have hq : decide (16 < g) = false ∨ (decide (16 < g) = true ∧ decide (g ≤ 64) = false) := by
    by_cases h : 16 < g
    · exact .inr ⟨decide_eq_true h, decide_eq_false fun e => hgn ⟨h, e⟩⟩
    · exact .inl (decide_eq_false h)
  clear hgn
  rcases hq with d4 | ⟨d4, d5⟩
  · go_enter Tryz.func3, Tryz.ntmps3
    go_wp2_with (first
      | (go_at_call 4; refine hA.mono ?_; rintro e w1 ⟨rfl, hb1⟩)
      | (go_at_call 5; (with_reducible refine (cN _ hb1).mono ?_); rintro e w2 ⟨rfl, hb2⟩; have hb2' := under.below_step hb1 hb2)
      | (go_at_call 6; (with_reducible refine (cM _).mono ?_); rintro e w3 ⟨rfl, rfl⟩)
      | (go_at_call 7; (with_reducible refine (cE _ hb2').mono ?_); rintro e w4 ⟨rfl, hb4⟩; have hb4' := under.below_step hb2' hb4))
    go_ret
    exact ⟨rfl, hb4'⟩
  · go_enter Tryz.func3, Tryz.ntmps3
    go_wp2_with (first
      | (go_at_call 4; refine hA.mono ?_; rintro e w1 ⟨rfl, hb1⟩)
      | (go_at_call 5; (with_reducible refine (cN _ hb1).mono ?_); rintro e w2 ⟨rfl, hb2⟩; have hb2' := under.below_step hb1 hb2)
      | (go_at_call 6; (with_reducible refine (cM _).mono ?_); rintro e w3 ⟨rfl, rfl⟩)
      | (go_at_call 7; (with_reducible refine (cE _ hb2').mono ?_); rintro e w4 ⟨rfl, hb4⟩; have hb4' := under.below_step hb2' hb4))
    go_ret
    exact ⟨rfl, hb4'⟩
set_option maxRecDepth 20000 in
set_option maxHeartbeats 8000000 in
theorem acts_few (a : String → Addr) (n : Nat) (hn : okN n) (h16 : n ≤ 16) (s1 s2 : Option Addr) (la ca lb cb : Nat) (hz : Nat → Nat) (az : Nat → Ac) (h1 : 1 ≤ la) (h2 : la ≤ 100) (h3 : lb ≤ 150) (w : World) (hw : Base a w) (hH : HashAt s1 la w hz) (hA : ActAt s2 lb w az) :
    Calls Tryz.prog 3 #[.int .i64 n, .slice s1 la ca, .slice s2 lb cb] w fun e w' => e = .returned (.bool true) ∧ Below w.heap.size w w' := by
  have hAl := alive_any a w hw
  have HW := Lib.hid hw
  have HH := Lib.hid hH
  have HA := Lib.hid hA
  have d1 : decide ((la : Int) < 1) = false := decide_eq_false (by omega)
  have d2 : decide (100 < (la : Int)) = false := decide_eq_false (by omega)
  have d3 : decide (150 < (lb : Int)) = false := decide_eq_false (by omega)
  have d4 : decide (16 < (n : Int)) = false := decide_eq_false (by omega)
  clear hw hH hA
  go_enter Tryz.func3, Tryz.ntmps3
  go_wp2_with (first
    | (go_at_call 4; refine hAl.mono ?_; rintro e w1 ⟨rfl, hb1⟩))
  refine (new_yes n hn _).mono ?_
  rintro e w2 ⟨rfl, ht2, hb2⟩
  go_wp2_with (fail)
  refine (rtnew_yes n hn _).mono ?_
  rintro e w3 ⟨f, rfl, hf3, hfb, hb3⟩
  have cE0 := fun W => errs.num_nil W
  have HW1 := Lib.hid (HW.out.below hb1)
  have HH1 := Lib.hid (HH.out.below hb1)
  have HA1 := Lib.hid (HA.out.below hb1)
  have HB1 := Lib.hid hb1
  have hI : Sa w1 a (w1.heap.size + 1) w1.heap.size w3.heap.size f n 0 (w3.alloc (.cells #[.int .i64 0, .int .i64 0, .int .i64 0, .int .i64 0, .int .i64 0, .int .i64 0, .int .i64 0, .bool false] 38)) := by
    have l1 := ht2.lt
    have l2 := ht2.lb
    have l3 := hb3.size
    have hb23 := under.below_step hb2 hb3
    have hLS := LS.new hb23 (ht2.below hb3) (Tb.Ok.new hn) (T := w1.heap.size + 1) (B := w1.heap.size) (by omega) (Nat.le_refl _)
    have hfl : ∀ b, b ∈ f.d n ∨ b = f.G → b < w3.heap.size := fun b hb => hf3.lts hb
    refine ⟨Tb.new n, Mt.zero, 0, by omega, rfl, ⟨hLS.pr HW1.out, hf3.below (new_block w3 _), rfl, fun b hb e => ?_, fun b hb => ?_, hLS.below, fun b hb => ?_, HW1.out.far⟩, rfl, rfl, rfl⟩
    · have hq := hfb b hb
      have hl := hfl b hb
      simp [Ln.d] at e
      omega
    · have hq := hfb b (.inl hb)
      have := HW1.out.far
      omega
    · rcases List.mem_append.1 hb with hb | hb
      · simp [Ln.d] at hb; omega
      · have := hfb b (.inl hb); omega
  have HI := Lib.hid hI
  clear hI ht2 hb2 hAl hb1 HH HA HW hf3 hfb hb3
  go_wp2_with (go_at_call 7; (with_reducible refine (cE0 _).mono ?_); rintro e w4 ⟨rfl, rfl⟩)
  generalize w3.alloc (.cells #[.int .i64 0, .int .i64 0, .int .i64 0, .int .i64 0, .int .i64 0, .int .i64 0, .int .i64 0, .bool false] 38) = W0 at HI ⊢
  generalize w3.heap.size = Bm at HI ⊢
  generalize w1.heap.size + 1 = T at HI ⊢
  generalize hBe : w1.heap.size = B at HI ⊢
  clear hBe cE0
  go_loopw [64] (fun i wr => ∃ j : Nat, j ≤ lb ∧ i = .int .i64 j ∧ Hid (Sa w1 a T B Bm f n j wr)) (fun i _ => lb - (intOf i).toNat)
  case atStart => exact ⟨0, by omega, rfl, HI⟩
  case round =>
    obtain ⟨j, hj, rfl, HO⟩ := hrel
    clear HI
    rcases Nat.lt_or_ge j lb with hjl | hjl
    · as_aux_lemma =>
        obtain ⟨⟨x, rfl, hcs⟩, b1, b2, b3, b4⟩ := HA1.out j hjl
        obtain ⟨t, m, k, hkj, htn, hS, hpa, hva, hua⟩ := HO.out
        obtain ⟨c0, c1, c2⟩ := hcs _ hS.bel
        have hji : (j : Int) < (lb : Int) := by omega
        have hjw : j + 1 ≤ lb := by omega
        have hkz : kN (az j).key la < la := kN_lt _ h1
        have hzz : hz (kN (az j).key la) < 18446744073709551616 := by obtain ⟨_, _, h, _⟩ := HH1.out _ hkz; exact h
        have cE := fun W (hb : Below w1.heap.size w1 W) => entry_any s1 la ca hz h1 (by omega) (az j).kind (az j).key (az j).n W (HH1.out.below hb)
        have hv := uN_lt (az j).n
        generalize kN (az j).key la = ki at *
        generalize uN (az j).n = vn at *
        generalize hz ki = hh at *
        generalize (az j).kind = kd at *
        generalize (az j).key = ky at *
        generalize (az j).n = nn at *
        have cD := fun W (s : Two w1 a T B (.pr Bm 0) m t f t k W) => (show Calls Tryz.prog 8 #[.pointer (some ⟨T, 0, none⟩), .pointer (some ⟨f.R, 0, none⟩), .agg #[.pointer (some ⟨Bm, 0, none⟩)], group.entV ki vn hh, .agg #[.int .i64 kd, .int .i64 ky, .int .i64 nn]] W fun e w' => e = .returned (.bool true) ∧ ∃ t' n, n ≤ 64 ∧ t'.n = t.n ∧ Two w1 a T B (.pr Bm 0) ((Ln.pr Bm 0).see m n) t' f t' (k + n) w' ∧ Past (Dn T B (.pr Bm 0) f t.n) W w' from do_any HW1.out s ki hh vn kd ky nn (by omega) (by omega) hzz hv)
        have HS := Lib.hid hS
        have HM := Lib.hid (And.intro hpa (And.intro hva hua))
        have HTN := Lib.hid htn
        have hr := World.alloc_heap_new wr (.cells #[.int .i64 kd, .int .i64 ky, .int .i64 nn] 40)
        have x0 : (wr.alloc (.cells #[.int .i64 kd, .int .i64 ky, .int .i64 nn] 40)).cell? ⟨wr.heap.size, 0, none⟩ = some (.int .i64 kd) := by rw [cell_of_row _ _ _ _ _ _ hr]; rfl
        have x1 : (wr.alloc (.cells #[.int .i64 kd, .int .i64 ky, .int .i64 nn] 40)).cell? ⟨wr.heap.size, 1, none⟩ = some (.int .i64 ky) := by rw [cell_of_row _ _ _ _ _ _ hr]; rfl
        have x2 : (wr.alloc (.cells #[.int .i64 kd, .int .i64 ky, .int .i64 nn] 40)).cell? ⟨wr.heap.size, 2, none⟩ = some (.int .i64 nn) := by rw [cell_of_row _ _ _ _ _ _ hr]; rfl
        have HS5 := Lib.hid (hS.read (new_block wr (.cells #[.int .i64 kd, .int .i64 ky, .int .i64 nn] 40)))
        clear hS hpa hva hua htn HO hcs hr b1 b2 b3 b4
        go_upto_region 15 with (fail)
        generalize wr.alloc (.cells #[.int .i64 kd, .int .i64 ky, .int .i64 nn] 40) = w5 at *
        generalize wr.heap.size = A at *
        have z0 := Under.cell x0
        have z1 := Under.cell x1
        have z2 := Under.cell x2
        refine wp_region_tail_under 8 (by kernel_rfl) (by kernel_rfl) ?_
        simp only [List.take_succ_cons, List.take_zero, List.drop_succ_cons, List.drop_zero]
        repeat (quiet_step ((first
          | (go_at_call 9; (with_reducible refine under_call (probing_any _ _ _)))
          | (go_at_call 10; (with_reducible refine under_call (cE _ (under.below_step HS5.out.bel (Under.below _))))))))
        refine wpQuiet_nil ?_
        intro wq hwq
        obtain ⟨q, rfl⟩ := hwq
        have HS6 := Lib.hid (HS5.out.read q.below)
        clear z0 z1 z2 x0 x1 x2 cE c0 c1 c2
        generalize q.W = w6 at *
        go_upto_region 17 with (go_at_call 8; (with_reducible refine (cD _ HS6.out).mono ?_); rintro e w7 ⟨rfl, t', c, hc, htn', hS7, hp7⟩)
        have hok := hS7.rd.ok
        obtain ⟨hpa, hva, hua⟩ := see_counts Bm 0 m HM.out.1 HM.out.2.1 HM.out.2.2 c (by omega)
        have htn7 : t'.n = n := by rw [htn', HTN.out]
        obtain ⟨kc, hkc⟩ : ∃ kc, k + c = kc := ⟨_, rfl⟩
        rw [hkc] at hS7 hpa
        have hkcb : kc ≤ 64 * (j + 1) := by omega
        have hlen := hok.len
        have htmb := hok.tombs
        have cLe := fun (q : Under w7) => (show Calls Tryz.prog 11 #[.pointer (some ⟨T, 0, none⟩)] q.W fun e w' => e = .returned (.int .i64 (cntT 3 t' : Nat)) ∧ q.W = w' from by rw [← hlen]; exact len_any T B t' q.W (hS7.read q.below).rd.at')
        have cTo := fun (q : Under w7) => (show Calls Tryz.prog 13 #[.pointer (some ⟨T, 0, none⟩)] q.W fun e w' => e = .returned (.int .i64 (cntT 2 t' : Nat)) ∧ q.W = w' from by rw [← htmb]; exact tombs_any T B t' q.W (hS7.read q.below).rd.at')
        have cLf := fun (q : Under w7) => left_any T B t' hok q.W (hS7.read q.below).rd.at'
        have cGr := fun (q : Under w7) => (show Calls Tryz.prog 16 #[.pointer (some ⟨T, 0, none⟩)] q.W fun e w' => e = .returned (.int .i64 n) ∧ q.W = w' from by rw [← htn7]; exact groups_any T B t' q.W (hS7.read q.below).rd.at')
        have cC3 := fun (q : Under w7) => (show Calls Tryz.prog 12 #[.pointer (some ⟨f.R, 0, none⟩), .int .i64 3] q.W fun e w' => e = .returned (.int .i64 (cntT 3 t' : Nat)) ∧ Below q.W.heap.size q.W w' from rtcount_any f t' kc 3 (okN_le hok.n) q.W (hS7.read q.below).wa)
        have cC2 := fun (q : Under w7) => (show Calls Tryz.prog 12 #[.pointer (some ⟨f.R, 0, none⟩), .int .i64 2] q.W fun e w' => e = .returned (.int .i64 (cntT 2 t' : Nat)) ∧ Below q.W.heap.size q.W w' from rtcount_any f t' kc 2 (okN_le hok.n) q.W (hS7.read q.below).wa)
        have cRl := fun (q : Under w7) => rtleft_any f t' hok kc q.W (hS7.read q.below).wa
        have cAl := fun (q : Under w7) => (show Calls Tryz.prog 17 #[.pointer (some ⟨Bm, 0, none⟩)] q.W fun e w' => e = .returned (.agg #[.int .i64 (kc : Nat), .int .i64 0, .int .i64 0]) ∧ Below q.W.heap.size q.W w' from by
          have := all_any Bm 0 ((Ln.pr Bm 0).see m c) q.W (hS7.read q.below).rd.ln
          rw [hpa, hva, hua] at this
          exact this)
        have r1 := Under.cell hS7.wa.cell1
        have HS7 := Lib.hid hS7
        have HM7 := Lib.hid (And.intro hpa (And.intro hva hua))
        have HTN7 := Lib.hid htn7
        clear hS7 hpa hva hua htn' htn7 hkc hlen htmb hok hp7 hc hkj cD HS5 HS6 HS HM HTN
        generalize cntT 3 t' = n3 at *
        generalize cntT 2 t' = n2 at *
        generalize t'.left = lf at *
        as_aux_lemma =>
          refine wp_region_under (by kernel_rfl) (by kernel_rfl) ?_
          repeat (go_big_quiet_step (first
            | (go_at_call 11; (with_reducible refine under_same (cLe _)))
            | (go_at_call 13; (with_reducible refine under_same (cTo _)))
            | (go_at_call 14; (with_reducible refine under_drew (cLf _)))
            | (go_at_call 16; (with_reducible refine under_same (cGr _)))
            | (go_at_call 12; (with_reducible refine under_call (cC3 _)))
            | (go_at_call 12; (with_reducible refine under_call (cC2 _)))
            | (go_at_call 15; (with_reducible refine under_call (cRl _)))
            | (go_at_call 17; (with_reducible refine under_call (cAl _)))))
          refine wpQuiet_nil ?_
          intro wz hwz
          obtain ⟨z, rfl⟩ := hwz
          go_wp2
          go_roundw
          case rel => exact ⟨j + 1, by omega, by simp, Lib.hid ⟨t', _, kc, hkcb, HTN7.out, HS7.out.read z.below, HM7.out.1, HM7.out.2.1, HM7.out.2.2⟩⟩
          case measure => simp [intOf]; omega
    · obtain rfl : j = lb := by omega
      obtain ⟨t, m, k, hkj, htn, hS, _, _, _⟩ := HO.out
      have hok := hS.rd.ok
      have cT := text_tab T B t hok wr hS.rd.at'
      have cU := fun W (s : Two w1 a T B (.pr Bm 0) m t f t k W) => rttext_any f t hok k W s.wa
      have hl64 : (texts t t.n).length ≤ 64 := by rw [texts_length]; exact okN_le hok.n
      have cS := fun o1 o2 c1 c2 W (h1 : TextsAt o1 (texts t t.n) W) (h2 : TextsAt o2 (texts t t.n) W) => same_texts o1 o2 c1 c2 (texts t t.n) hl64 W h1 h2
      generalize texts t t.n = l at *
      have HS := Lib.hid hS
      clear hS HO hok
      go_wp2_with (first
        | (go_at_call 19; (with_reducible refine cT.mono ?_); rintro e w4 ⟨v1, rfl, hK1, hb4⟩; have HS4 := Lib.hid (HS.out.read hb4); obtain ⟨o1, e1, rfl, hx1⟩ := hK1.texts; have HX1 := Lib.hid hx1; clear hx1 hK1)
        | (go_at_call 20; (with_reducible refine (cU _ HS4.out).mono ?_); rintro e w5 ⟨v2, rfl, hK2, hb5⟩; have HS5 := Lib.hid (HS4.out.read hb5); obtain ⟨o2, e2, rfl, hx2⟩ := hK2.texts; have HX2 := Lib.hid (And.intro (HX1.out.read hb5) hx2); clear hx2 hK2)
        | (go_at_call 18; (with_reducible refine (cS _ _ _ _ _ HX2.out.1 HX2.out.2).mono ?_); rintro e w6 ⟨rfl, rfl⟩))
      go_ret
      exact ⟨rfl, under.below_step HB1.out HS5.out.bel⟩
theorem acts_law (a : String → Addr) (g : Int) (s1 s2 : Option Addr) (la ca lb cb : Nat) (hz : Nat → Nat) (az : Nat → Ac) (w : World) (hw : Base a w) (hH : HashAt s1 la w hz) (hA : ActAt s2 lb w az) :
    Calls Tryz.prog 3 #[.int .i64 g, .slice s1 la ca, .slice s2 lb cb] w fun e w' => e = .returned (.bool true) ∧ Below w.heap.size w w' := by
  by_cases hc : la < 1 ∨ 100 < la ∨ 150 < lb ∨ (16 < g ∧ g ≤ 64)
  · exact acts_many a g s1 s2 la ca lb cb hc w hw
  · by_cases hg : ∃ k : Nat, g = k ∧ okN k
    · obtain ⟨n, rfl, hn⟩ := hg
      have := okN_le hn
      exact acts_few a n hn (by omega) s1 s2 la ca lb cb hz az (by omega) (by omega) (by omega) w hw hH hA
    · exact acts_no a g hg (by omega) s1 s2 la ca lb cb (by omega) (by omega) (by omega) w hw
end Go.Proofs.YtlgjmnckdjkngaaGreatDoor.table
