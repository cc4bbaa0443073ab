/- evac: a step whose panic is caught; the document's step beside it. -/
import Derived.Test.YtibcokiijlamcaaGreatDoorEvacRun
import Derived.Test.YtibcokiijlamcaaGreatDoorEvacLooks
import Derived.LoopTactic
namespace Go.Proofs.YtibcokiijlamcaaGreatDoor.evac
open Go.ChangeShapes Go.WideShapes Go.ChangeAt Go.RowKit Go.Shelf swar under trap meter group probe lens tail call table
attribute [local go_sem] Oper.semAt_some stage.pureUpon move.stepUpon
set_option linter.unusedSimpArgs false
set_option linter.unusedVariables false

/-! ### behind a call whose new memory is not told -/
theorem tat_old {T B s : Nat} {t : Tb} {w w' : World} (h : TAt T B t w) (hT : T < s) (hB : B < s) (he : ∀ k, k < s → w'.heap[k]? = w.heap[k]?) : TAt T B t w' :=
  have eT := he T hT
  have eB := he B hB
  have c : ∀ i v, w.cell? ⟨T, i, none⟩ = some v → w'.cell? ⟨T, i, none⟩ = some v := fun i v hc => (World.cell?_of_block (w := w) eT).trans hc
  ⟨c _ _ h.row, c _ _ h.len, c _ _ h.tombs, fun i => (World.frozen?_of_block (w := w) eT).trans (h.fz i), fun i hi => (h.gs i hi).of_block eB, h.ne, by
    have h1 : w.heap[B]? = some (w.heap[B]'h.lb) := Array.getElem?_eq_getElem h.lb
    rw [← eB] at h1
    exact (Array.getElem?_eq_some_iff.1 h1).1⟩
theorem real_old {a : String → Addr} {w0 : World} {Y : Lay} {t : Nat → Tb} {W W' : World} {s : Nat} (h : Real a w0 Y t W) (hs : ∀ b ∈ Y.tall, b < s) (he : ∀ k, k < s → W'.heap[k]? = W.heap[k]?) (hb : Below w0.heap.size w0 W') : Real a w0 Y t W' :=
  ⟨fun i hi => tat_old (h.at' i hi) (hs _ (Lay.tin hi (by simp))) (hs _ (Lay.tin hi (by simp))) he, h.ok, h.tn, h.sep, h.new, hb, h.base⟩
theorem fnE (cap : Array Value) (w : World) : (callFunc 11 cap).run Tryz.prog w = .ok (.enter 11 cap) w := by kernel_rfl
/-- the blocks that a caught step writes -/
abbrev Dc (Y : Lay) (V Bm Xi : Nat) : List Nat := Xi :: V :: Bm :: Y.tall
section
variable {a : String → Addr} {w0 : World} {Y : Lay} {V A Bm d n0 n1 next v : Nat} {t : Nat → Tb} {Xv Xm Xi : Nat}
/-- behind a step: so many groups are moved -/
def nxN (n0 next : Nat) : Nat := if next < n0 then next + 1 else next
def nxT (N d n0 next : Nat) (t : Nat → Tb) : Nat → Tb := if next < n0 then stp1 N d next t else t
def nxV (N d n0 next v : Nat) (t : Nat → Tb) : Nat := if next < n0 then v + 1 + lkc N d t (lst t next) else v
/-- are all entries of the next group put? -/
def nxG (N d n0 next : Nat) (t : Nat → Tb) : Bool := !decide (next < n0) || goods N d t (lst t next)
structure Aft (a : String → Addr) (w0 : World) (Y : Lay) (V Bm d n0 next v : Nat) (t : Nat → Tb) (Xi : Nat) (W : World) : Prop where
  r : Real a w0 Y (nxT Y.N d n0 next t) W
  ev : EvAt V Y d (nxN n0 next) W
  mt : MAt Bm 0 (Mk 0 (nxV Y.N d n0 next v t) (nxN n0 next)) W
  is : Var Xi (.bool (decide (next < n0))) W
set_option maxRecDepth 20000 in
theorem clo_any (s : Sd w0 Y V A Bm d n0 n1) (hv : v ≤ 600 * next) (hn : next ≤ n0) (h64 : n0 ≤ 64) (W : World) (hr : Real a w0 Y t W) (hE : EvAt V Y d next W) (hm : MAt Bm 0 (Mk 0 v next) W) (cv : W.cell? ⟨Xv, 0, none⟩ = some (.pointer (some ⟨V, 0, none⟩))) (cm : W.cell? ⟨Xm, 0, none⟩ = some (.pointer (some ⟨Bm, 0, none⟩))) (ci : Var Xi (.bool false) W) (hX0 : w0.heap.size ≤ Xi) (nX : Xi ∉ V :: Bm :: Y.tall) :
    Calls Tryz.prog 11 #[.pointer (some ⟨Xv, 0, none⟩), .pointer (some ⟨Xm, 0, none⟩), .pointer (some ⟨Xi, 0, none⟩)] W fun e w' =>
      (nxG Y.N d n0 next t = true ∧ e = .returned (.tuple #[]) ∧ Past (Dc Y V Bm Xi) W w' ∧ Aft a w0 Y V Bm d n0 next v t Xi w') ∨
      (nxG Y.N d n0 next t = false ∧ e = .panicked (thrown (raisedV (a "ambler/api.ErrBroken"))) ∧ Past (Dc Y V Bm Xi) W w' ∧ ∃ t', Real a w0 Y t' w') := by
  have hst : ∀ (w5 : World) (b : Bool), Past (V :: Bm :: Y.tall) W w5 → Past (Dc Y V Bm Xi) W (w5.setCell ⟨Xi, 0, none⟩ (.bool b)) ∧ Past [Xi] w5 (w5.setCell ⟨Xi, 0, none⟩ (.bool b)) := fun w5 b hp =>
    ⟨(hp.mono fun x hx => List.mem_cons_of_mem _ hx).store (.inl (by simp)) _, (Past.refl [Xi] w5).store (.inl (by simp)) _⟩
  have nXV : Xi ≠ V := fun e => nX (by simp [e])
  have nXB : Xi ≠ Bm := fun e => nX (by simp [e])
  have nXt : Xi ∉ Y.tall := fun e => nX (by simp [e])
  have ci0 := ci.cell
  have cf0 := ci.frozen
  by_cases hlt : next < n0
  · have hd : decide (next < n0) = true := decide_eq_true hlt
    have cS := step_on V a w0 Y t s.N d next Bm (Mk 0 v next) s.ld (by rw [s.e0]; exact hlt) (Mk_ok (by omega) (by omega) (by omega)) (Mk_E _ _ _) W hE hr hm s.hB s.nB s.hV s.nV
    have hl := lkc_le Y.N d s.N (lst t next) t (fun i hi => by have := hr.tn i hi; have := okN_le (hr.ok i hi).n; omega)
    have hl8 := lst_length t next
    rw [Mk_unit (by omega), Mk_visit (by omega), Mk_see _ (by omega)] at cS
    have CS := Lib.hid cS
    clear cS
    go_enter Tryz.func11, Tryz.ntmps11
    go_wp2_with (fail)
    refine CS.out.mono ?_
    rintro e w5 (⟨hg, rfl, hr5, hE5, hm5, hp5⟩ | ⟨hg, rfl, hp5, hx⟩)
    · obtain ⟨h1, h2⟩ := hst w5 true hp5
      have ci5 := ci.past hp5 nX
      have c5 := ci5.cell
      have f5 := ci5.frozen
      have HF := Lib.hid (show Past (Dc Y V Bm Xi) W _ ∧ Aft a w0 Y V Bm d n0 next v t Xi _ from ⟨h1, by
        refine ⟨?_, ?_, ?_, by rw [hd]; exact ci5.set _⟩
        · unfold nxT; rw [if_pos hlt]
          exact hr5.past h2 fun b hb => by
            obtain rfl : b = Xi := by simpa using hb
            exact ⟨hX0, nXt⟩
        · unfold nxN; rw [if_pos hlt]; exact hE5.past h2 (by simpa using Ne.symm nXV)
        · unfold nxV nxN; rw [if_pos hlt, if_pos hlt]; exact hm5.past h2 (by simpa using Ne.symm nXB)⟩)
      have HG := Lib.hid (show nxG Y.N d n0 next t = true from by unfold nxG; rw [hg, Bool.or_true])
      clear hr5 hE5 hm5 hp5 h1 h2 hst ci5 hE hr hm ci ci0 cf0 hl hl8 hg
      go_wp2
      go_end0
      exact .inl ⟨HG.out, rfl, HF.out⟩
    · have HG := Lib.hid (show nxG Y.N d n0 next t = false from by unfold nxG; rw [hg, hd]; rfl)
      exact ⟨rfl, .inr ⟨HG.out, rfl, hp5.mono fun x hx => List.mem_cons_of_mem _ hx, hx⟩⟩
  · obtain rfl : next = n0 := by omega
    have hd : decide (next < next) = false := decide_eq_false hlt
    have h64' : Y.n 0 ≤ 64 := by rw [s.e0]; exact h64
    have hE' := hE
    rw [← s.e0] at hE
    have cO := step_off V Y d h64' (some ⟨Bm, 0, none⟩) W hE
    have HK := Lib.hid (And.intro hr (And.intro hE' hm))
    have HCI := Lib.hid ci
    clear hE hE' hr hm
    go_enter Tryz.func11, Tryz.ntmps11
    go_wp2_with (fail)
    refine cO.mono ?_
    rintro e w5 ⟨rfl, hb5⟩
    obtain ⟨h1, h2⟩ := hst w5 false (Past.of hb5)
    have ci5 := HCI.out.below hb5
    have c5 := ci5.cell
    have f5 := ci5.frozen
    have HF := Lib.hid (show Past (Dc Y V Bm Xi) W _ ∧ Aft a w0 Y V Bm d next next v t Xi _ from ⟨h1, by
      refine ⟨?_, ?_, ?_, by rw [hd]; exact ci5.set _⟩
      · unfold nxT; rw [if_neg hlt]
        exact (HK.out.1.read hb5).past h2 fun b hb => by
          obtain rfl : b = Xi := by simpa using hb
          exact ⟨hX0, nXt⟩
      · unfold nxN; rw [if_neg hlt]; exact (HK.out.2.1.keep hb5).past h2 (by simpa using Ne.symm nXV)
      · unfold nxV nxN; rw [if_neg hlt, if_neg hlt]; exact (HK.out.2.2.below hb5).past h2 (by simpa using Ne.symm nXB)⟩)
    have HG := Lib.hid (show nxG Y.N d next next t = true from by unfold nxG; rw [hd]; rfl)
    clear h1 h2 hst ci5 ci ci0 cf0 cO hb5
    go_wp2
    go_end0
    exact .inl ⟨HG.out, rfl, HF.out⟩
theorem catch_step (s : Sd w0 Y V A Bm d n0 n1) (hw : Base a w0) (hv : v ≤ 600 * next) (hn : next ≤ n0) (h64 : n0 ≤ 64) (W : World) (hr : Real a w0 Y t W) (hE : EvAt V Y d next W) (hm : MAt Bm 0 (Mk 0 v next) W) (cv : W.cell? ⟨Xv, 0, none⟩ = some (.pointer (some ⟨V, 0, none⟩))) (cm : W.cell? ⟨Xm, 0, none⟩ = some (.pointer (some ⟨Bm, 0, none⟩))) (ci : Var Xi (.bool false) W) (hX0 : w0.heap.size ≤ Xi) (nX : Xi ∉ V :: Bm :: Y.tall) :
    Calls Tryz.prog 10 #[.func (.func 11) #[] #[.pointer (some ⟨Xv, 0, none⟩), .pointer (some ⟨Xm, 0, none⟩), .pointer (some ⟨Xi, 0, none⟩)]] W fun e w' =>
      (nxG Y.N d n0 next t = true ∧ e = .returned .nilIface ∧ Past (Dc Y V Bm Xi) W w' ∧ Aft a w0 Y V Bm d n0 next v t Xi w') ∨
      (nxG Y.N d n0 next t = false ∧ e = .returned (errAt a 10) ∧ Past (Dc Y V Bm Xi) W w' ∧ ∃ t', Real a w0 Y t' w') := by
  have hb2 := two_new W (.cells #[.nilIface] 38) (.cells #[.bool false] 4)
  have hC := clo_any (Xv := Xv) (Xm := Xm) s hv hn h64 _ (hr.read hb2) (hE.keep hb2) (hm.below hb2) (keepc hb2 cv) (keepc hb2 cm) (ci.below hb2) hX0 nX
  have hld : ∀ k ∈ Dc Y V Bm Xi, k < W.heap.size := fun k hk => by
    rcases List.mem_cons.1 hk with rfl | hk
    · exact ci.lt
    · rcases List.mem_cons.1 hk with rfl | hk
      · exact hE.lt
      · rcases List.mem_cons.1 hk with rfl | hk
        · exact hm.lt
        · exact hr.lt k hk
  have hnd : ∀ k ∈ Dc Y V Bm Xi, w0.heap.size ≤ k := fun k hk => by
    rcases List.mem_cons.1 hk with rfl | hk
    · exact hX0
    · rcases List.mem_cons.1 hk with rfl | hk
      · exact s.hV
      · rcases List.mem_cons.1 hk with rfl | hk
        · exact s.hB
        · exact hr.new k hk
  have hbw : ∀ wx, Past (Dc Y V Bm Xi) W wx → Below w0.heap.size w0 wx := fun wx hp => hr.bel.trans (hp.below hr.bel.size hnd)
  have hlt' : ∀ b ∈ Y.tall, b < W.heap.size := hr.lt
  by_cases hg : nxG Y.N d n0 next t = true
  · have C := catch_any a 0 11 #[.pointer (some ⟨Xv, 0, none⟩), .pointer (some ⟨Xm, 0, none⟩), .pointer (some ⟨Xi, 0, none⟩)] (fnE _) (Dc Y V Bm Xi) (fun W1 => ∃ W2, Aft a w0 Y V Bm d n0 next v t Xi W2 ∧ ∀ k, k < W.heap.size → W1.heap[k]? = W2.heap[k]?) W hld (fun wx hp => (hw.below (hbw wx hp)).errs)
      (fun w1 w2 ⟨W2, h1, h2⟩ he => ⟨W2, h1, fun k hk => (he k hk).trans (h2 k hk)⟩)
      (hC.mono fun e w' h => by
        rcases h with ⟨_, rfl, hp, h⟩ | ⟨hf, _⟩
        · exact ⟨Ends.back, hp, w', h, fun _ _ => rfl⟩
        · rw [hg] at hf; cases hf)
    refine C.mono fun e w' ⟨he, hp, W2, h1, h2⟩ => .inl ⟨hg, he, hp, ?_⟩
    have l1 := hE.lt
    have l2 := hm.lt
    have l3 := ci.lt
    exact ⟨real_old h1.r hlt' h2 (hbw w' hp), ⟨(h2 V l1).trans h1.ev.row⟩, h1.mt.of_block (h2 Bm l2), h1.is.of_block (h2 Xi l3)⟩
  · have hg' : nxG Y.N d n0 next t = false := by simpa using hg
    have C := catch_any a 10 11 #[.pointer (some ⟨Xv, 0, none⟩), .pointer (some ⟨Xm, 0, none⟩), .pointer (some ⟨Xi, 0, none⟩)] (fnE _) (Dc Y V Bm Xi) (fun W1 => ∃ W2, (∃ t', Real a w0 Y t' W2) ∧ ∀ k, k < W.heap.size → W1.heap[k]? = W2.heap[k]?) W hld (fun wx hp => (hw.below (hbw wx hp)).errs)
      (fun w1 w2 ⟨W2, h1, h2⟩ he => ⟨W2, h1, fun k hk => (he k hk).trans (h2 k hk)⟩)
      (hC.mono fun e w' h => by
        rcases h with ⟨hf, _⟩ | ⟨_, rfl, hp, h⟩
        · rw [hg'] at hf; cases hf
        · exact ⟨Ends.raised 9 (by decide), hp, w', h, fun _ _ => rfl⟩)
    refine C.mono fun e w' ⟨he, hp, W2, ⟨t', h1⟩, h2⟩ => .inr ⟨hg', he, hp, t', ?_⟩
    exact real_old h1 hlt' h2 (hbw w' hp)
end
/-! ### the document's step -/
theorem sumK_up {N : Nat} (hN : N = 2 ∨ N = 3) {k : Nat → Nat} {i x : Nat} (hi : i < N) : sumK N (up k i (k i + x)) = sumK N k + x := by
  rcases hN with rfl | rfl
  · obtain rfl | rfl : i = 0 ∨ i = 1 := by omega
    · show up k 0 (k 0 + x) 0 + up k 0 (k 0 + x) 1 = k 0 + k 1 + x
      rw [up_same, up_ne _ _ (by decide)]; omega
    · show up k 1 (k 1 + x) 0 + up k 1 (k 1 + x) 1 = k 0 + k 1 + x
      rw [up_same, up_ne _ _ (by decide)]; omega
  · obtain rfl | rfl | rfl : i = 0 ∨ i = 1 ∨ i = 2 := by omega
    · show up k 0 (k 0 + x) 0 + up k 0 (k 0 + x) 1 + up k 0 (k 0 + x) 2 = k 0 + k 1 + k 2 + x
      rw [up_same, up_ne _ _ (by decide), up_ne _ _ (by decide)]; omega
    · show up k 1 (k 1 + x) 0 + up k 1 (k 1 + x) 1 + up k 1 (k 1 + x) 2 = k 0 + k 1 + k 2 + x
      rw [up_same, up_ne _ _ (by decide), up_ne _ _ (by decide)]; omega
    · show up k 2 (k 2 + x) 0 + up k 2 (k 2 + x) 1 + up k 2 (k 2 + x) 2 = k 0 + k 1 + k 2 + x
      rw [up_same, up_ne _ _ (by decide), up_ne _ _ (by decide)]; omega
theorem sumK_kvs {N d : Nat} (hN : N = 2 ∨ N = 3) : ∀ (l : List Sl) (u : Nat → Tb) (k : Nat → Nat), sumK N (kvs N d u k l) = sumK N k + lkc N d u l
  | [], _, _ => rfl
  | e :: l, u, k => by
    show sumK N (kvs N d (mv1 N d u e) (kv1 N d u k e) l) = sumK N k + (looks (u (tgt N d e.hash)) e.key e.hash + lkc N d (mv1 N d u e) l)
    rw [sumK_kvs hN l]
    unfold kv1
    rw [sumK_up hN (tgt_lt hN d e.hash)]; omega
theorem sumK_le {N : Nat} (hN : N = 2 ∨ N = 3) (k : Nat → Nat) {i : Nat} (hi : i < N) : k i ≤ sumK N k := by
  rcases hN with rfl | rfl
  · obtain rfl | rfl : i = 0 ∨ i = 1 := by omega
    · show k 0 ≤ k 0 + k 1; omega
    · show k 1 ≤ k 0 + k 1; omega
  · obtain rfl | rfl | rfl : i = 0 ∨ i = 1 ∨ i = 2 := by omega
    · show k 0 ≤ k 0 + k 1 + k 2; omega
    · show k 1 ≤ k 0 + k 1 + k 2; omega
    · show k 2 ≤ k 0 + k 1 + k 2; omega
theorem rstep_both {a : String → Addr} {w0 : World} {Y : Lay} {E GE cE d n0 next v : Nat} {t t' : Nat → Tb} {k : Nat → Nat} (hN : Y.N = 2 ∨ Y.N = 3) (e0 : Y.n 0 = n0) (ld : d ≤ 15) (hn : next ≤ n0) (h64 : n0 ≤ 64) (hv : v ≤ 600 * next) (hk : sumK Y.N k = v) (w : World) (hE : EmAt E GE cE Y d next w) (h : Many a w0 Y t' t k w) (nE : Out Y E) (nG : Out Y GE) (hE0 : w0.heap.size ≤ E) :
    Calls Tryz.prog 13 #[.pointer (some ⟨E, 0, none⟩)] w fun e w' =>
      (nxG Y.N d n0 next t = true ∧ e = .returned (.tuple #[.bool (decide (next < n0)), .bool false]) ∧ (∃ k', sumK Y.N k' = nxV Y.N d n0 next v t ∧ Many a w0 Y t' (nxT Y.N d n0 next t) k' w') ∧ EmAt E GE cE Y d (nxN n0 next) w' ∧ Past (E :: Y.rall) w w') ∨
      (nxG Y.N d n0 next t = false ∧ e = .returned (.tuple #[.bool true, .bool true]) ∧ Past (E :: Y.rall) w w') := by
  by_cases hlt : next < n0
  · have hd : decide (next < n0) = true := decide_eq_true hlt
    have eg : nxG Y.N d n0 next t = goods Y.N d t (lst t next) := by unfold nxG; rw [hd]; rfl
    refine (rstep_on E GE cE a w0 Y t' t k hN d next 100000 ld (by rw [e0]; exact hlt) (by decide) (fun i hi => by have := sumK_le hN k hi; omega) w hE h nE nG hE0).mono fun e w' q => ?_
    rw [eg, ← goods_tak Y.N d next (lst t next) t]
    rcases q with ⟨h1, h2, h3, h4, h5⟩ | ⟨h1, h2, h3⟩
    · refine .inl ⟨h1, by rw [hd]; exact h2, ⟨kvs Y.N d (tak t next) (ktk k) (lst t next), ?_, ?_⟩, ?_, h5⟩
      · rw [sumK_kvs hN, lkc_tak]
        unfold ktk nxV
        rw [sumK_up hN (by omega), if_pos hlt, hk]
      · unfold nxT stp1
        rw [if_pos hlt, ← mvs_tak]; exact h3
      · unfold nxN; rw [if_pos hlt]; exact h4
    · exact .inr ⟨h1, h2, h3⟩
  · obtain rfl : next = n0 := by omega
    have hd : decide (next < next) = false := decide_eq_false hlt
    have hE' := hE
    rw [← e0] at hE
    refine (rstep_off E GE cE a w0 Y t' t k (by omega) d w hE h).mono fun e w' ⟨h1, h2⟩ => .inl ⟨by unfold nxG; rw [hd]; rfl, by rw [hd]; exact h1, ⟨k, ?_, ?_⟩, ?_, Past.of h2⟩
    · unfold nxV; rw [if_neg hlt]; exact hk
    · unfold nxT; rw [if_neg hlt]; exact h.read h2
    · unfold nxN; rw [if_neg hlt]; exact hE'.keep h2
end Go.Proofs.YtibcokiijlamcaaGreatDoor.evac
