/- BuildEmpty: the walk. -/
import Derived.Test.YtplhgcidegngiaaDoorBuildAt
import Derived.Test.YtplhgcidegngiaaDoorTableEntry
import Derived.Test.YtplhgcidegngiaaDoorTrapFns
import Derived.LoopTactic
namespace Go.Proofs.YtplhgcidegngiaaDoor.build
open Go.ChangeShapes Go.WideShapes Go.ChangeAt Go.RowKit Go.Shelf swar under trap meter group probe lens tail call table
attribute [local go_sem] Oper.semAt_some stage.pureUpon move.stepUpon
set_option linter.unusedSimpArgs false
set_option linter.unusedVariables false

/-- an entry's value and hash, made of its key -/
def vOf (k : Nat) : Nat := (k + 1) % 18446744073709551616
def hOf (k : Nat) : Nat := (k * 11400714819323198485) % 18446744073709551616
theorem vOf_lt (k : Nat) : vOf k < 18446744073709551616 := Nat.mod_lt _ (by decide)
theorem hOf_lt (k : Nat) : hOf k < 18446744073709551616 := Nat.mod_lt _ (by decide)
theorem vOf_cast (k : Nat) : IntKind.u64.wrap ((k : Int) + 1) = ((vOf k : Nat) : Int) := by unfold vOf; rw [IntKind.wrap_u64]; omega
theorem hOf_cast (k : Nat) : IntKind.u64.wrap ((k : Int) * 11400714819323198485) = ((hOf k : Nat) : Int) := by unfold hOf; rw [IntKind.wrap_u64]; omega
theorem entry_at (k : Nat) (w : World) : Calls Tryd.prog 11 #[.int .u64 k] w fun e w' => e = .returned (group.entV k (vOf k) (hOf k)) ∧ Below w.heap.size w w' := by
  have e1 := vOf_cast k
  have e2 := hOf_cast k
  generalize vOf k = v at *
  generalize hOf k = h at *
  go_enter Tryd.func11, Tryd.ntmps11
  go_wp2
  exact bodyPost_ret (v := group.entV k v h) (by simp [results, Tryd.results11, go_sem]) rfl ⟨rfl, new_block w _⟩
/-- between two Steps: the build, and the other table -/
structure E1 (w : World) (D T B n k T2 B2 Bm : Nat) (W : World) : Prop where
  s : Bs w D T B n k (some ⟨T, 0, none⟩) Bm W
  t2 : TAt T2 B2 (Tb.new n) W
  hT : w.heap.size ≤ T2
  hB : w.heap.size ≤ B2
  n1 : T2 ∉ [D, T, B, Bm]
  n2 : B2 ∉ [D, T, B, Bm]
/-- two tables and one meter -/
structure E2 (w : World) (T B : Nat) (t : Tb) (T2 B2 : Nat) (u : Tb) (Bm : Nat) (m : Mt) (W : World) : Prop where
  a : LS w T B t Bm m W
  b : LS w T2 B2 u Bm m W
  n1 : T2 ≠ T
  n2 : T2 ≠ B
  n3 : B2 ≠ T
  n4 : B2 ≠ B
section
variable {w : World} {D T B n k T2 B2 Bm : Nat} {t t' u u' : Tb} {m m' : Mt} {W W' : World}
theorem E1.read (h : E1 w D T B n k T2 B2 Bm W) (hb : Below W.heap.size W W') : E1 w D T B n k T2 B2 Bm W' := ⟨h.s.read hb, h.t2.below hb, h.hT, h.hB, h.n1, h.n2⟩
theorem E1.next (h : E1 w D T B n k T2 B2 Bm W) (hs : Bs w D T B n (k + 1) (some ⟨T, 0, none⟩) Bm W') (hp : Past [D, T, B, Bm] W W') : E1 w D T B n (k + 1) T2 B2 Bm W' := ⟨hs, h.t2.past hp h.n1 h.n2, h.hT, h.hB, h.n1, h.n2⟩
theorem E1.two (h : E1 w D T B n n T2 B2 Bm W) (hn : okN n) (hs : Bs w D T B n n none Bm W') (hp : Past [D] W W') : E2 w T B (Tb.new n) T2 B2 (Tb.new n) Bm (mtk n) W' := by
  have n1 := h.n1
  have n2 := h.n2
  simp only [List.mem_cons, List.not_mem_nil, or_false, not_or] at n1 n2
  have t2 := h.t2.past hp (by simpa using n1.1) (by simpa using n2.1)
  exact ⟨⟨hs.bel, hs.bd.tb.all, .new hn, hs.bd.mt, hs.hT, hs.hB, hs.hm, hs.bd.mT, hs.bd.mB⟩, ⟨hs.bel, t2, .new hn, hs.bd.mt, h.hT, h.hB, hs.hm, Ne.symm n1.2.2.2, Ne.symm n2.2.2.2⟩, n1.2.1, n1.2.2.1, n2.2.1, n2.2.2.1⟩
theorem E2.read (h : E2 w T B t T2 B2 u Bm m W) (hb : Below W.heap.size W W') : E2 w T B t T2 B2 u Bm m W' := ⟨h.a.read hb, h.b.read hb, h.n1, h.n2, h.n3, h.n4⟩
theorem E2.left (h : E2 w T B t T2 B2 u Bm m W) (ok : t'.Ok) (hs : TL T B t' (.pr Bm 0) m' W W') : E2 w T B t' T2 B2 u Bm m' W' := by
  have a := h.a.tl ok hs
  have e : [T, B] ++ (Ln.pr Bm 0).d = [T, B, Bm] := rfl
  have hp := hs.ln.past
  rw [e] at hp
  exact ⟨a, ⟨a.below, h.b.at'.past hp (by simp; exact ⟨h.n1, h.n2, h.b.nT.symm⟩) (by simp; exact ⟨h.n3, h.n4, h.b.nB.symm⟩), h.b.ok, a.ma, h.b.hT, h.b.hB, h.b.hm, h.b.nT, h.b.nB⟩, h.n1, h.n2, h.n3, h.n4⟩
theorem E2.right (h : E2 w T B t T2 B2 u Bm m W) (ok : u'.Ok) (hs : TL T2 B2 u' (.pr Bm 0) m' W W') : E2 w T B t T2 B2 u' Bm m' W' := by
  have b := h.b.tl ok hs
  have e : [T2, B2] ++ (Ln.pr Bm 0).d = [T2, B2, Bm] := rfl
  have hp := hs.ln.past
  rw [e] at hp
  exact ⟨⟨b.below, h.a.at'.past hp (by simp; exact ⟨h.n1.symm, h.n3.symm, h.a.nT.symm⟩) (by simp; exact ⟨h.n2.symm, h.n4.symm, h.a.nB.symm⟩), h.a.ok, b.ma, h.a.hT, h.a.hB, h.a.hm, h.a.nT, h.a.nB⟩, b, h.n1, h.n2, h.n3, h.n4⟩
end
theorem empty_long (a : String → Addr) (g : Int) (s1 : Option Addr) (la ca : Nat) (hla : 60 < la) (w : World) (hw : Base a w) :
    Calls Tryd.prog 3 #[.int .i64 g, .slice s1 la ca] w fun e w' => e = .returned (.bool true) ∧ Below w.heap.size w w' := by
  have hAl := alive_any a w hw
  have d1 : decide ((60 : Int) < (la : Int)) = true := decide_eq_true (by omega)
  clear hw
  go_enter Tryd.func3, Tryd.ntmps3
  go_wp2_with (go_at_call 4; refine hAl.mono ?_; rintro e w0 ⟨rfl, hb0⟩)
  go_ret
  exact ⟨rfl, hb0⟩
set_option maxRecDepth 20000 in
theorem empty_no (a : String → Addr) (g : Int) (hg : ¬ ∃ k : Nat, g = k ∧ okN k) (s1 : Option Addr) (la ca : Nat) (hla : la ≤ 60) (w : World) (hw : Base a w) :
    Calls Tryd.prog 3 #[.int .i64 g, .slice s1 la ca] w fun e w' => e = .returned (.bool true) ∧ Below w.heap.size w w' := by
  have hAl := alive_any a w hw
  have d1 : decide ((60 : Int) < (la : Int)) = false := decide_eq_false (by omega)
  have HN := Lib.hid (fun W (hb : Below w.heap.size w W) => new_no g hg W _ (errs6 (hw.errs.below hb)).two.range)
  have HM := Lib.hid (fun W (hb : Below w.heap.size w W) => (table.new_no g hg W _ (errs6 (hw.errs.below hb)).two.range).mono fun e w' (k : _ ∧ ∃ q, w' = W.drewN q) => (show _ ∧ Below W.heap.size W w' from ⟨k.1, by obtain ⟨q, rfl⟩ := k.2; exact below_drewN' _ _⟩))
  have hbn := bld_none
  have htn := tab_none
  clear hw hg
  go_enter Tryd.func3, Tryd.ntmps3
  go_wp2_with (first
    | (go_at_call 4; refine hAl.mono ?_; rintro e w0 ⟨rfl, hb0⟩)
    | (go_at_call 5; refine (HN.out _ hb0).mono ?_; rintro e w1 ⟨rfl, hb1⟩)
    | (go_at_call 6; refine (HM.out _ (under.below_step hb0 hb1)).mono ?_; rintro e w2 ⟨rfl, hb2⟩))
  go_ret
  exact ⟨rfl, under.below_step (under.below_step hb0 hb1) hb2⟩
set_option maxRecDepth 100000 in
set_option maxHeartbeats 8000000 in
theorem empty_yes (a : String → Addr) (n : Nat) (hn : okN n) (s1 : Option Addr) (la ca : Nat) (hz : Nat → Nat) (hla : la ≤ 60) (w : World) (hw : Base a w) (hH : HashAt s1 la w hz) :
    Calls Tryd.prog 3 #[.int .i64 n, .slice s1 la ca] w fun e w' => e = .returned (.bool true) ∧ Below w.heap.size w w' := by
  have hAl := alive_any a w hw
  have d1 : decide ((60 : Int) < (la : Int)) = false := decide_eq_false (by omega)
  have HW := Lib.hid hw
  have HH := Lib.hid hH
  have hn64 := okN_le hn
  have hbs := bld_some
  have hts := tab_some
  have htn := tab_none
  clear hw hH
  go_enter Tryd.func3, Tryd.ntmps3
  go_wp2_with (first
    | (go_at_call 4; refine hAl.mono ?_; rintro e w0 ⟨rfl, hb0⟩)
    | (go_at_call 5; refine (new_yes n hn _).mono ?_; rintro e w1 ⟨D, rfl, hD, hx1, hp1, hb1⟩)
    | (go_at_call 6; refine (table.new_yes n hn _).mono ?_; rintro e w2 ⟨rfl, ht2, hb2⟩))
  have l1 := hx1.lt
  have l2 := hp1.lt
  have l3 := hp1.lb
  have l4 := ht2.lt
  have l5 := ht2.lb
  have z0 := hb0.size
  have z1 := hb1.size
  have z2 := hb2.size
  have hS0 := Bs.start (under.below_step hb1 hb2) (hx1.keep hb2) (hp1.below hb2) hD
  have hb3 := new_block w2 (.cells #[.int .i64 0, .int .i64 0, .int .i64 0, .int .i64 0, .int .i64 0, .int .i64 0, .int .i64 0, .bool false] 36)
  have hE0 := (show E1 w D (w0.heap.size + 1) w0.heap.size n 0 (w1.heap.size + 1) w1.heap.size w2.heap.size _ from
    ⟨⟨under.below_step hb0 hS0.bel, hS0.bd, Nat.le_trans z0 hS0.hD, Nat.le_trans z0 hS0.hT, Nat.le_trans z0 hS0.hB, Nat.le_trans z0 hS0.hm⟩, ht2.below hb3, by omega, by omega, by simp only [List.mem_cons, List.not_mem_nil, or_false, not_or]; omega, by simp only [List.mem_cons, List.not_mem_nil, or_false, not_or]; omega⟩)
  have HE0 := Lib.hid hE0
  clear hE0 hS0 hb3 hb2 hb1 hb0 ht2 hx1 hp1 hD l1 l2 l3 l4 l5 z0 z1 z2 hAl d1
  generalize w2.alloc (.cells #[.int .i64 0, .int .i64 0, .int .i64 0, .int .i64 0, .int .i64 0, .int .i64 0, .int .i64 0, .bool false] 36) = W0 at HE0 ⊢
  generalize w2.heap.size = Bm at HE0 ⊢
  generalize w1.heap.size + 1 = T2 at HE0 ⊢
  generalize w1.heap.size = B2 at HE0 ⊢
  generalize w0.heap.size + 1 = T at HE0 ⊢
  generalize w0.heap.size = B at HE0 ⊢
  go_wp2_with (fail)
  go_loopw [46] (fun i wr => ∃ j : Nat, j ≤ 65 ∧ i = .int .i64 j ∧ Hid (∃ k, k = min j n ∧ E1 w D T B n k T2 B2 Bm wr)) (fun i _ => 65 - (intOf i).toNat)
  case atStart => exact ⟨0, by omega, rfl, Lib.hid ⟨0, by omega, HE0.out⟩⟩
  case round =>
    obtain ⟨j, hj, rfl, HR⟩ := hrel
    clear HE0
    obtain ⟨k, hk, hE⟩ := HR.out
    clear HR
    have HE := Lib.hid hE
    clear hE
    rcases Nat.lt_or_ge j 65 with hj5 | hj5
    · have hji : (j : Int) < 65 := by omega
      rcases Nat.lt_or_ge j n with hjn | hjn
      · obtain rfl : k = j := by omega
        clear hk
        go_wp2_with (go_at_call 7; refine (HE.out.s.step HW.out hjn hn64).mono ?_; rintro e w4 ⟨rfl, hs4, hp4⟩; have HE4 := Lib.hid (HE.out.next hs4 hp4); clear hs4 hp4)
        go_roundw
        case rel => exact ⟨k + 1, by omega, by simp, Lib.hid ⟨k + 1, by omega, HE4.out⟩⟩
        case measure => simp [intOf]; omega
      · have hkn : k = n := by omega
        clear hk
        obtain rfl := hkn
        go_wp2_with (go_at_call 7; refine (step_off D k _ hn64 _ _ HE.out.s.bd.bx).mono ?_; rintro e w4 ⟨rfl, q, rfl⟩; have HE4 := Lib.hid (HE.out.read (below_drewN' wr q)))
        go_roundw
        case rel => exact ⟨j + 1, by omega, by simp, Lib.hid ⟨k, by omega, HE4.out⟩⟩
        case measure => simp [intOf]; omega
    · have hkn : k = n := by omega
      clear hk
      obtain rfl := hkn
      obtain rfl : j = 65 := by omega
      go_wp2_with (go_at_call 8; refine (HE.out.s.take hn64).mono ?_; rintro e w4 ⟨rfl, hs4, hp4⟩; have HI := Lib.hid (HE.out.two hn hs4 hp4); clear hs4 hp4)
      clear HE
      have HI := Lib.hid (show ∃ t m, t.n = k ∧ E2 w T B t T2 B2 t Bm m w4 from ⟨_, _, rfl, HI.out⟩)
      go_loopw [69] (fun i wr => ∃ j : Nat, j ≤ la ∧ i = .int .i64 j ∧ Hid (∃ t m, t.n = k ∧ E2 w T B t T2 B2 t Bm m wr)) (fun i _ => la - (intOf i).toNat)
      case atStart => exact ⟨0, by omega, rfl, HI⟩
      case round =>
        obtain ⟨j, hj, rfl, HR⟩ := hrel
        clear HI
        obtain ⟨t, m, htn2, hE⟩ := HR.out
        have HE := Lib.hid hE
        have HT := Lib.hid htn2
        clear hE HR htn2
        rcases Nat.lt_or_ge j la with hjl | hjl
        · have hji : (j : Int) < (la : Int) := by omega
          obtain ⟨y, rfl, hkey, hcy⟩ := HH.out j hjl
          have hc := hcy _ HE.out.a.below
          clear hcy
          generalize hz j = key at *
          have hv := vOf_lt key
          have hh := hOf_lt key
          have cEn := fun W => entry_at key W
          generalize vOf key = v at *
          generalize hOf key = hs at *
          have hok := HE.out.a.ok.puts hkey hh hv
          have hpn : (t.puts key hs v).n = k := (puts_n t key hs v).trans HT.out
          have hpe : putE' t key hs ≤ 16 := by unfold putE' roomE; split; omega; split; omega; split <;> omega
          have cP1 := fun m W (h : E2 w T B t T2 B2 t Bm m W) => put_tab (h.a.pr HW.out) key hs v hkey hh hv
          have cP2 := fun m W (h : E2 w T B (t.puts key hs v) T2 B2 t Bm m W) => put_tab (h.b.pr HW.out) key hs v hkey hh hv
          have HP := Lib.hid (And.intro hok hpn)
          clear hok hpn
          generalize t.puts key hs v = t' at *
          generalize putE' t key hs = pe at *
          generalize putB' t key hs = pb at *
          go_wp2_with (first
            | (go_at_call 10; refine (probing_any Bm 0 _).mono ?_; first | (rintro e w5 ⟨rfl, hb5⟩))
            | (go_at_call 11; refine (cEn _).mono ?_; rintro e w6 ⟨rfl, hb6⟩; have hb7 := under.below_step hb5 hb6; clear hb5 hb6)
            | (go_at_call 9; refine (cP1 _ _ (HE.out.read hb7)).mono ?_; rintro e w8 ⟨rfl, hs8⟩; have hE8 := (HE.out.read hb7).left HP.out.1 hs8; clear hs8 hb7 cP1)
            | (go_at_call 9; refine (cP2 _ _ (hE8.read hb7)).mono ?_; rintro e w9 ⟨rfl, hs9⟩; have hE9 := (hE8.read hb7).right HP.out.1 hs9; clear hs9 hb7 cP2 hE8)
            | (go_at_call 12; refine (num_err a pe hpe _ (HW.out.below hE9.a.below).errs).mono ?_; rintro e w10 ⟨rfl, hb10⟩; have hE10 := hE9.read hb10; clear hb10 hE9)
            | (go_at_call 12; refine (num_err a pe hpe _ (HW.out.below hE10.a.below).errs).mono ?_; rintro e w11 ⟨rfl, hb11⟩; have hE11 := hE10.read hb11; clear hb11 hE10))
          go_roundw
          case rel => exact ⟨j + 1, by omega, by simp, Lib.hid ⟨_, _, HP.out.2, hE11⟩⟩
          case measure => simp [intOf]; omega
        · obtain rfl : j = la := by omega
          have hlt : (texts t t.n).length = t.n := texts_length _ _
          have hST := fun o1 o2 c1 c2 W h1 h2 => same_texts o1 o2 c1 c2 (texts t t.n) (by rw [hlt, HT.out]; exact hn64) W h1 h2
          rw [hlt] at hST
          have HST := Lib.hid hST
          clear hST
          go_wp2_with (fail)
          refine (text_tab _ _ _ HE.out.a.ok _ HE.out.a.at').mono ?_
          rintro e w8 ⟨v1, rfl, hk1, hb8⟩
          obtain ⟨o1, c1, rfl, ht1⟩ := KeptS.texts (l := texts t t.n) hk1
          rw [hlt]
          have hR8 := HE.out.read hb8
          have HT1 := Lib.hid ht1
          clear hk1 ht1
          go_wp2_with (fail)
          refine (text_tab _ _ _ hR8.b.ok _ hR8.b.at').mono ?_
          rintro e w9 ⟨v2, rfl, hk2, hb9⟩
          obtain ⟨o2, c2, rfl, ht2⟩ := KeptS.texts (l := texts t t.n) hk2
          rw [hlt]
          have hR9 := hR8.read hb9
          have HT2 := Lib.hid ht2
          clear hk2 ht2
          go_wp2_with (first
            | (go_at_call 13; refine (HST.out _ _ _ _ _ (HT1.out.read hb9) HT2.out).mono ?_; rintro e w10 ⟨rfl, rfl⟩)
            | (go_at_call 15; refine (len_any T B t _ hR9.a.at').mono ?_; rintro e w11 ⟨rfl, rfl⟩)
            | (go_at_call 15; refine (len_any T2 B2 t _ hR9.b.at').mono ?_; rintro e w12 ⟨rfl, rfl⟩))
          go_ret
          exact ⟨by simp, hR9.a.below⟩
theorem empty_law (a : String → Addr) (g : Int) (s1 : Option Addr) (la ca : Nat) (hz : Nat → Nat) (w : World) (hw : Base a w) (hH : HashAt s1 la w hz) :
    Calls Tryd.prog 3 #[.int .i64 g, .slice s1 la ca] w fun e w' => e = .returned (.bool true) ∧ Below w.heap.size w w' := by
  by_cases hl : 60 < la
  · exact empty_long a g s1 la ca hl w hw
  · by_cases hg : ∃ k : Nat, g = k ∧ okN k
    · obtain ⟨n, rfl, hn⟩ := hg
      exact empty_yes a n hn s1 la ca hz (by omega) w hw hH
    · exact empty_no a g hg s1 la ca (by omega) w hw
end Go.Proofs.YtplhgcidegngiaaDoor.build
