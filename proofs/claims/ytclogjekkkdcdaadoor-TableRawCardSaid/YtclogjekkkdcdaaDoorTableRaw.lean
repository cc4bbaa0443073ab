/- TableRaw: the walk. -/
import Derived.Test.YtclogjekkkdcdaaDoorTableAlive
import Derived.LoopTactic
namespace Go.Proofs.YtclogjekkkdcdaaDoor.table
open Go.ChangeShapes Go.WideShapes Go.ChangeAt Go.RowKit Go.Shelf swar under trap meter group probe lens tail call
attribute [local go_sem] Oper.semAt_some stage.pureUpon move.stepUpon
set_option linter.unusedSimpArgs false
set_option linter.unusedVariables false

theorem looks_new {n : Nat} (hn : okN n) (key h : Nat) : looks (Tb.new n) key h = 1 := by
  have hl : (path (Tb.new n) h).length = n := wl_length _ _
  have hp := okN_pos hn
  unfold looks sn
  cases e : path (Tb.new n) h with
  | nil => rw [e] at hl; simp at hl; omega
  | cons i l =>
    have : stp (Tb.new n) key h i = true := by
      unfold stp; rw [show opens ((Tb.new n).gs i) = true from rfl]; rfl
    unfold seen; rw [if_pos this]; rfl
theorem there_new {n : Nat} (hn : okN n) (key h : Nat) : isThere (Tb.new n) key h = false := (Rep.new hn fun _ => h).there key
theorem visits_zero (Bm : Nat) : ∀ k : Nat, k ≤ 64 → (Ln.vi Bm 0).see Mt.zero k = { Mt.zero with va := k, vl := k }
  | 0, _ => rfl
  | k + 1, h => by
    rw [Ln.see_succ, visits_zero Bm k (by omega)]
    have e : sm (k : Int) 1 = ((k + 1 : Nat) : Int) := by rw [sm_add (by omega) (by omega) (by omega)]; omega
    show Mt.visits _ 1 = _
    unfold Mt.visits
    simp only [e]
/-- between two rounds: the raw table, the other one, the meter -/
structure RS (w : World) (T B n k T2 B2 Bm : Nat) (W : World) : Prop where
  below : Below w.heap.size w W
  p : PAt T B n k W
  t2 : TAt T2 B2 (Tb.new n) W
  ma : MAt Bm 0 ((Ln.vi Bm 0).see Mt.zero k) W
  hT : w.heap.size ≤ T
  hB : w.heap.size ≤ B
  hm : w.heap.size ≤ Bm
  nT : Bm ≠ T
  nB : Bm ≠ B
  nT2 : Bm ≠ T2
  nB2 : Bm ≠ B2
  a1 : T2 ≠ T
  a2 : T2 ≠ B
  a3 : B2 ≠ T
  a4 : B2 ≠ B
theorem RS.read {w : World} {T B n k T2 B2 Bm : Nat} {W W' : World} (h : RS w T B n k T2 B2 Bm W) (hb : Below W.heap.size W W') : RS w T B n k T2 B2 Bm W' :=
  ⟨under.below_step h.below hb, h.p.below hb, h.t2.below hb, h.ma.below hb, h.hT, h.hB, h.hm, h.nT, h.nB, h.nT2, h.nB2, h.a1, h.a2, h.a3, h.a4⟩
theorem RS.next {w : World} {T B n k T2 B2 Bm : Nat} {W W' : World} (h : RS w T B n k T2 B2 Bm W) (hp : PAt T B n (k + 1) W') (hs : LnStep [T, B] (.vi Bm 0) ((Ln.vi Bm 0).one ((Ln.vi Bm 0).see Mt.zero k)) W W') : RS w T B n (k + 1) T2 B2 Bm W' := by
  have e : [T, B] ++ (Ln.vi Bm 0).d = [T, B, Bm] := rfl
  have hps := hs.past
  rw [e] at hps
  exact ⟨h.below.trans (hps.below h.below.size (by simp; exact ⟨h.hT, h.hB, h.hm⟩)), hp, h.t2.past hps (by simp; exact ⟨h.a1, h.a2, fun e => h.nT2 e.symm⟩) (by simp; exact ⟨h.a3, h.a4, fun e => h.nB2 e.symm⟩), hs.at', h.hT, h.hB, h.hm, h.nT, h.nB, h.nT2, h.nB2, h.a1, h.a2, h.a3, h.a4⟩
theorem RS.start {w w1 w2 : World} {T B n T2 B2 : Nat} (hp : PAt T B n 0 w1) (hb1 : Below w.heap.size w w1) (h1 : w.heap.size ≤ T) (h2 : w.heap.size ≤ B) (ht : TAt T2 B2 (Tb.new n) w2) (hb2 : Below w1.heap.size w1 w2) (h3 : w1.heap.size ≤ T2) (h4 : w1.heap.size ≤ B2) :
    RS w T B n 0 T2 B2 w2.heap.size (w2.alloc (.cells #[.int .i64 0, .int .i64 0, .int .i64 0, .int .i64 0, .int .i64 0, .int .i64 0, .int .i64 0, .bool false] 34)) := by
  have l1 := hp.lt
  have l2 := hp.lb
  have l3 := ht.lt
  have l4 := ht.lb
  have l5 := hb2.size
  have l6 := hb1.size
  exact ⟨under.below_step (under.below_step hb1 hb2) (new_block w2 _), (hp.below hb2).below (new_block w2 _), ht.below (new_block w2 _), MAt.new w2, h1, h2, by omega, by omega, by omega, by omega, by omega, by omega, by omega, by omega, by omega⟩
theorem len_cell (T : Nat) (x : Int) (w : World) (h1 : w.cell? ⟨T, 1, none⟩ = some (.int .i64 x)) : Calls Tryd.prog 11 #[.pointer (some ⟨T, 0, none⟩)] w fun e w' => e = .returned (.int .i64 x) ∧ w = w' := by
  go_enter Tryd.func11, Tryd.ntmps11
  go_wp2
  go_ret
  exact ⟨rfl, rfl⟩
theorem tombs_cell (T : Nat) (x : Int) (w : World) (h1 : w.cell? ⟨T, 2, none⟩ = some (.int .i64 x)) : Calls Tryd.prog 12 #[.pointer (some ⟨T, 0, none⟩)] w fun e w' => e = .returned (.int .i64 x) ∧ w = w' := by
  go_enter Tryd.func12, Tryd.ntmps12
  go_wp2
  go_ret
  exact ⟨rfl, rfl⟩
theorem groups_cell (T B n : Nat) (w : World) (h1 : w.cell? ⟨T, 0, none⟩ = some (.slice (some ⟨B, 0, none⟩) n n)) : Calls Tryd.prog 13 #[.pointer (some ⟨T, 0, none⟩)] w fun e w' => e = .returned (.int .i64 n) ∧ w = w' := by
  go_enter Tryd.func13, Tryd.ntmps13
  go_wp2
  go_ret
  exact ⟨rfl, rfl⟩
theorem RS.all {w : World} {T B n T2 B2 Bm : Nat} {W : World} (hn : okN n) (h : RS w T B n n T2 B2 Bm W) : LS w T B (Tb.new n) Bm ((Ln.vi Bm 0).see Mt.zero n) W :=
  ⟨h.below, h.p.all, .new hn, h.ma, h.hT, h.hB, h.hm, h.nT, h.nB⟩
theorem num_range (a : String → Addr) (w : World) (h : errs.ErrsOk errs.names a w) :
    Calls Tryd.prog 10 #[errs.errV (a "ambler/api.ErrRange")] w fun e w' => e = .returned (.int .i64 1) ∧ Below w.heap.size w w' := errs.num_at a 0 (by decide) w h
/-- behind the loop: two new tables and a meter -/
def RT (w : World) (T B n T2 B2 Bm : Nat) (m : Mt) (W : World) : Prop := LS w T B (Tb.new n) Bm m W ∧ TAt T2 B2 (Tb.new n) W ∧ Bm ≠ T2 ∧ Bm ≠ B2
theorem RT.of {w : World} {T B n T2 B2 Bm : Nat} {W : World} (hn : okN n) (h : RS w T B n n T2 B2 Bm W) : RT w T B n T2 B2 Bm ((Ln.vi Bm 0).see Mt.zero n) W := ⟨h.all hn, h.t2, h.nT2, h.nB2⟩
theorem RT.read {w : World} {T B n T2 B2 Bm : Nat} {m : Mt} {W W' : World} (h : RT w T B n T2 B2 Bm m W) (hb : Below W.heap.size W W') : RT w T B n T2 B2 Bm m W' := ⟨h.1.read hb, h.2.1.below hb, h.2.2⟩
theorem RT.look {w : World} {T B n T2 B2 Bm : Nat} {m m' : Mt} {W W' : World} (h : RT w T B n T2 B2 Bm m W) (hs : LnStep [] (.pr Bm 0) m' W W') : RT w T B n T2 B2 Bm m' W' :=
  ⟨h.1.look hs, h.2.1.past hs.past (by simp [Ln.d]; exact fun e => h.2.2.1 e.symm) (by simp [Ln.d]; exact fun e => h.2.2.2 e.symm), h.2.2⟩
set_option maxRecDepth 20000 in
theorem raw_law_no (a : String → Addr) (g : Int) (hg : ¬ ∃ k : Nat, g = k ∧ okN k) (h : Nat) (w : World) (hw : Base a w) :
    Calls Tryd.prog 3 #[.int .i64 g, .int .u64 h] w fun e w' => e = .returned (.bool true) ∧ Below w.heap.size w w' := by
  have hA := alive_any a w hw
  have HW := Lib.hid hw
  have cR := fun W (hb : Below w.heap.size w W) => (raw_no g hg W _ (errs6 (hw.errs.below hb)).two.range).mono fun e w' (k : _ ∧ ∃ q, w' = W.drewN q) => (show _ ∧ Below W.heap.size W w' from ⟨k.1, by obtain ⟨q, rfl⟩ := k.2; exact below_drewN' _ _⟩)
  have cN := fun W (hb : Below w.heap.size w W) => (new_no g hg W _ (errs6 (hw.errs.below hb)).two.range).mono fun e w' (k : _ ∧ ∃ q, w' = W.drewN q) => (show _ ∧ Below W.heap.size W w' from ⟨k.1, by obtain ⟨q, rfl⟩ := k.2; exact below_drewN' _ _⟩)
  clear hg hw
  go_enter Tryd.func3, Tryd.ntmps3
  go_wp2_with (first
    | (go_at_call 7; refine hA.mono ?_; rintro e w1 ⟨rfl, hb1⟩)
    | (go_at_call 8; refine (cR _ hb1).mono ?_; rintro e w2 ⟨rfl, hb2'⟩; have hb2 := under.below_step hb1 hb2')
    | (go_at_call 9; refine (cN _ hb2).mono ?_; rintro e w3 ⟨rfl, hb3'⟩; have hb3 := under.below_step hb2 hb3')
    | (go_at_call 10; refine (num_range a _ (HW.out.errs.below hb4)).mono ?_; rintro e w5 ⟨rfl, hb5⟩; have hb6 := under.below_step hb4 hb5)
    | (go_at_call 10; refine (num_range a _ (HW.out.errs.below hb3)).mono ?_; rintro e w4 ⟨rfl, hb4'⟩; have hb4 := under.below_step hb3 hb4'))
  go_ret
  exact ⟨rfl, hb6⟩
set_option maxRecDepth 20000 in
set_option maxHeartbeats 2000000 in
theorem raw_law_yes (a : String → Addr) (n : Nat) (hn : okN n) (h : Nat) (hh : h < 18446744073709551616) (w : World) (hw : Base a w) :
    Calls Tryd.prog 3 #[.int .i64 n, .int .u64 h] w fun e w' => e = .returned (.bool true) ∧ Below w.heap.size w w' := by
  have hA := alive_any a w hw
  have HW := Lib.hid hw
  have hn64 := okN_le hn
  clear hw
  go_enter Tryd.func3, Tryd.ntmps3
  go_wp2_with (first
    | (go_at_call 7; refine hA.mono ?_; rintro e w1 ⟨rfl, hb1⟩)
    | (go_at_call 8; refine (raw_yes n hn _).mono ?_; rintro e w2 ⟨rfl, hp2, hb2⟩)
    | (go_at_call 9; refine (new_yes n hn _).mono ?_; rintro e w3 ⟨rfl, ht3, hb3⟩; have hS0 := RS.start hp2 hb2 (by omega) (Nat.le_refl _) ht3 hb3 (by omega) (Nat.le_refl _)))
  generalize w3.alloc (.cells #[.int .i64 0, .int .i64 0, .int .i64 0, .int .i64 0, .int .i64 0, .int .i64 0, .int .i64 0, .bool false] 34) = W0 at hS0 ⊢
  have HB1 := Lib.hid hb1
  have HS0 := Lib.hid hS0
  clear hp2 hb2 ht3 hb3 hA hS0 hb1
  generalize w3.heap.size = Bm at *
  generalize w2.heap.size = B2 at *
  have HW1 := Lib.hid (HW.out.below HB1.out)
  go_wp2_with (first
    | (go_at_call 11; refine (len_cell _ _ _ HS0.out.p.len).mono ?_; rintro e w4 ⟨rfl, rfl⟩)
    | (go_at_call 12; refine (tombs_cell _ _ _ HS0.out.p.tombs).mono ?_; rintro e w4 ⟨rfl, rfl⟩)
    | (go_at_call 13; refine (groups_cell _ _ n _ HS0.out.p.row).mono ?_; rintro e w4 ⟨rfl, rfl⟩))
  go_loopw [72] (fun i wr => ∃ k : Nat, k ≤ n ∧ i = .int .i64 k ∧ Hid (RS w1 (w1.heap.size + 1) w1.heap.size n k (B2 + 1) B2 Bm wr)) (fun i _ => n - (intOf i).toNat)
  case atStart => exact ⟨0, by omega, rfl, HS0⟩
  case round =>
    obtain ⟨k, hk, rfl, HR⟩ := hrel
    rcases Nat.lt_or_ge k n with hkn | hkn
    · have hki : (k : Int) < (n : Int) := by omega
      go_wp2_with (first
        | (go_at_call 15; refine (working_any Bm 0 _).mono ?_; rintro e w4 ⟨rfl, hb4⟩; have hS4 := HR.out.read hb4)
        | (go_at_call 14; refine (prepare_next _ _ n k hkn (.vi Bm 0) _ _ hS4.p hS4.ma (by simp [Ln.d]; exact fun e => hS4.nT e.symm) (by simp [Ln.d]; exact fun e => hS4.nB e.symm)).mono ?_; rintro e w5 ⟨rfl, hp5, hs5⟩; have hS5 := hS4.next hp5 hs5))
      go_roundw
      case rel => exact ⟨k + 1, by omega, by simp, Lib.hid hS5⟩
      case measure => simp [intOf]; omega
    · obtain rfl : k = n := by omega
      have hR := RT.of hn HR.out
      have HT := Lib.hid hR
      have hm := visits_zero Bm k hn64
      have hI := there_new hn 1 h
      have hLk := looks_new hn 1 h
      have cF := fun W (hb : Below wr.heap.size wr W) => find_tab ((HT.out.read hb).1.pr HW1.out) 1 h (by decide) hh
      rw [hI, hLk, hm, show (Ln.pr Bm 0).see { Mt.zero with va := k, vl := k } 1 = ⟨1, 1, k, k, 0, 0, 0, false⟩ from rfl] at cF
      have HR2 := Lib.hid (fun W W' (hb : Below wr.heap.size wr W) (hs : LnStep [] (.pr Bm 0) ⟨1, 1, k, k, 0, 0, 0, false⟩ W W') => (HT.out.read hb).look hs)
      generalize entOf (Tb.new k) 1 h = en at *
      have hlt : (texts (Tb.new k) k).length = k := texts_length _ _
      have hST := fun o1 o2 c1 c2 W h1 h2 => same_texts o1 o2 c1 c2 (texts (Tb.new k) k) (by rw [hlt]; exact hn64) W h1 h2
      rw [hlt] at hST
      have HST := Lib.hid hST
      clear hR hm hI hLk hST HS0
      go_wp2_with (first
        | (go_at_call 17; refine (probing_any Bm 0 _).mono ?_; rintro e w4 ⟨rfl, hb4⟩)
        | (go_at_call 16; refine (cF _ hb4).mono ?_; rintro e w5 ⟨rfl, hs5⟩; have hR5 := HR2.out _ _ hb4 hs5; have hb6 := new_block w5 (.cells #[.int .u64 (en.key : Nat), .int .u64 (en.val : Nat), .int .u64 (en.hash : Nat)] 42); have hR6 := hR5.read hb6)
        | (go_at_call 18; refine (all_any Bm 0 _ _ hR6.1.ma).mono ?_; rintro e w7 ⟨rfl, hb7⟩; have hR7 := hR6.read hb7))
      refine (text_tab _ _ _ hR7.1.ok _ hR7.1.at').mono ?_
      rintro e w8 ⟨v1, rfl, hk1, hb8⟩
      obtain ⟨o1, c1, rfl, ht1⟩ := KeptS.texts (l := texts (Tb.new k) k) hk1
      rw [hlt]
      have hR8 := hR7.read hb8
      have HT1 := Lib.hid ht1
      clear hk1 ht1 cF
      go_wp2_with (fail)
      refine (text_tab _ _ _ (Tb.Ok.new hn) _ hR8.2.1).mono ?_
      rintro e w9 ⟨v2, rfl, hk2, hb9⟩
      obtain ⟨o2, c2, rfl, ht2⟩ := KeptS.texts (l := texts (Tb.new k) k) hk2
      rw [hlt]
      have hR9 := hR8.read hb9
      have HT2 := Lib.hid ht2
      clear hk2 ht2
      have cO1 := fun W (hh : RT w1 (w1.heap.size + 1) w1.heap.size k (B2 + 1) B2 Bm ⟨1, 1, k, k, 0, 0, 0, false⟩ W) => prepare_off (w1.heap.size + 1) w1.heap.size k (k : Int) (.inr (Int.le_refl _)) (.vi Bm 0) W hh.1.at'.row _ (errs6 (HW1.out.below hh.1.below).errs).two.range
      have cO2 := fun W (hh : RT w1 (w1.heap.size + 1) w1.heap.size k (B2 + 1) B2 Bm ⟨1, 1, k, k, 0, 0, 0, false⟩ W) => prepare_off (w1.heap.size + 1) w1.heap.size k (-1) (.inl (by decide)) (.vi Bm 0) W hh.1.at'.row _ (errs6 (HW1.out.below hh.1.below).errs).two.range
      go_wp2_with (first
        | (go_at_call 19; refine (HST.out _ _ _ _ _ (HT1.out.read hb9) HT2.out).mono ?_; rintro e w10 ⟨rfl, rfl⟩)
        | (go_at_call 15; refine (working_any Bm 0 _).mono ?_; rintro e w11 ⟨rfl, hb11⟩; have hR11 := hR9.read hb11)
        | (go_at_call 14; refine (cO1 _ hR11).mono ?_; rintro e w12 ⟨rfl, hb12⟩; have hR12 := hR11.read hb12; clear hR9)
        | (go_at_call 10; refine (num_range a _ (HW1.out.below hR12.1.below).errs).mono ?_; rintro e w13 ⟨rfl, hb13⟩; have hR9 := hR12.read hb13; clear cO1 hR12)
        | (go_at_call 14; refine (cO2 _ hR11).mono ?_; rintro e w14 ⟨rfl, hb14⟩; have hR14 := hR11.read hb14)
        | (go_at_call 10; refine (num_range a _ (HW1.out.below hR14.1.below).errs).mono ?_; rintro e w15 ⟨rfl, hb15⟩))
      go_ret
      exact ⟨rfl, under.below_step HB1.out (hR14.read hb15).1.below⟩
theorem raw_law (a : String → Addr) (g : Int) (h : Nat) (hh : h < 18446744073709551616) (w : World) (hw : Base a w) :
    Calls Tryd.prog 3 #[.int .i64 g, .int .u64 h] w fun e w' => e = .returned (.bool true) ∧ Below w.heap.size w w' := by
  by_cases hg : ∃ k : Nat, g = k ∧ okN k
  · obtain ⟨n, rfl, hn⟩ := hg
    exact raw_law_yes a n hn h hh w hw
  · exact raw_law_no a g hg h w hw
end Go.Proofs.YtclogjekkkdcdaaDoor.table
