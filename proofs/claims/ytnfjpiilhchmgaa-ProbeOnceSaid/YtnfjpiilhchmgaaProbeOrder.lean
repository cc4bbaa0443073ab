/- Package probe's 'Order': slices.Collect of a walk; two lists of numbers compared. -/
import Derived.Test.YtnfjpiilhchmgaaProbeWalk
import Derived.RangeFuncOne
import Derived.RangeFuncWrites
import Derived.Maps.AppendAt
namespace Go.Proofs.Ytnfjpiilhchmgaa.probe
open Go.ChangeShapes Go.WideShapes Go.ChangeAt Go.RowKit Go.Shelf
attribute [local go_sem] Oper.semAt_some

theorem cell_old {W : World} {o : Obj} {b i : Nat} (hb : b < W.heap.size) : (W.alloc o).cell? ⟨b, i, none⟩ = W.cell? ⟨b, i, none⟩ := World.cell?_of_block (Below.heap_alloc W o b hb)
theorem frozen_old {W : World} {o : Obj} {b i : Nat} (hb : b < W.heap.size) : (W.alloc o).frozen? ⟨b, i, none⟩ = W.frozen? ⟨b, i, none⟩ := World.frozen?_of_block (Below.heap_alloc W o b hb)
theorem cell_new {W : World} {v : Value} {t : TypeId} {b : Nat} (hb : b = W.heap.size) : (W.alloc (.cells #[v] t)).cell? ⟨b, 0, none⟩ = some v := by subst hb; exact (Boxed.new W t v).cell
theorem frozen_new {W : World} {v : Value} {t : TypeId} {b : Nat} (hb : b = W.heap.size) : (W.alloc (.cells #[v] t)).frozen? ⟨b, 0, none⟩ = false := by subst hb; exact (Boxed.new W t v).frozen
/-- behind the store of the result's box, and the return -/
theorem once_end {w W : World} {R D : Nat} {u : Value} (hB : Below w.heap.size w W) (cr : W.cell? ⟨R, 0, none⟩ = some u) (hR : w.heap.size ≤ R) (hD : w.heap.size ≤ D) (hne : D ≠ R) (hK : W.heap[D]? = some (.deferred (some []))) :
    (W.setCell ⟨R, 0, none⟩ (.bool true)).heap[D]? = some (.deferred (some [])) ∧ ((W.setCell ⟨R, 0, none⟩ (.bool true)).putObj D (.deferred none)).cell? ⟨R, 0, none⟩ = some (.bool true) ∧ Below w.heap.size w ((W.setCell ⟨R, 0, none⟩ (.bool true)).putObj D (.deferred none)) := by
  have h1 : (W.setCell ⟨R, 0, none⟩ (.bool true)).heap[D]? = some (.deferred (some [])) := (Below.heap_setCell W ⟨R, 0, none⟩ (.bool true) D hne).trans hK
  have h2 : (W.setCell ⟨R, 0, none⟩ (.bool true)).cell? ⟨R, 0, none⟩ = some (.bool true) := World.cell?_setCell_same _ _ _ cr
  have h3 : Below w.heap.size w (W.setCell ⟨R, 0, none⟩ (.bool true)) := hB.setCell (p := ⟨R, 0, none⟩) hR _
  exact ⟨h1, cell_kept h2 (grownBy_putObj' _ D (.deferred none)) (fun r e => by cases e; exact ⟨_, h1, rfl⟩), h3.grown (grownBy_putObj' _ D (.deferred none)) h3.size (fun r e => by cases e; exact hD)⟩


def enc (k : Nat) : Value := .int .i64 (k : Nat)
theorem infoInt : (Try.prog.info? 3).map (fun i => (i.zero, i.size, i.bytes)) = some (some (.int .i64 0), 1, 8) := by kernel_rfl
theorem below_step {w W W' : World} (h : Below w.heap.size w W) (h' : Below W.heap.size W W') : Below w.heap.size w W' := h.trans (h'.mono h.size)
/-- a slice of the call's own holds a list of numbers: nil just where the list is empty -/
def Kept (base : Nat) (W : World) (v : Value) (l : List Nat) : Prop := W.ownsRow base 3 1 v l.length (l.map enc) ∧ (v = .slice none 0 0 ↔ l = [])
theorem Kept.cells {base : Nat} {W : World} {v : Value} {l : List Nat} (h : Kept base W v l) (hl : l ≠ []) :
    ∃ g c, v = .slice (some ⟨g, 0, none⟩) l.length c ∧ g < W.heap.size ∧ base ≤ g ∧ ∀ j, j < l.length → W.cell? ⟨g, j, none⟩ = some (.int .i64 (l[j]?.getD 0 : Nat)) := by
  obtain ⟨hrow, hn⟩ := h
  have hlen : 0 < l.length := List.length_pos_iff.2 hl
  obtain ⟨m, hm⟩ : ∃ m, l.length = m + 1 := ⟨l.length - 1, by omega⟩
  have hrow' := hrow
  rw [hm] at hrow'
  obtain ⟨g, c, hv⟩ := ownsRow_succ hrow'
  rw [← hm] at hv
  subst hv
  refine ⟨g, c, rfl, ?_, ?_, fun j hj => ?_⟩
  · rcases hrow.2 with ⟨h, _⟩ | ⟨g', c', cur, h, _, hg, _⟩
    · cases h
    · cases h; exact (Array.getElem?_eq_some_iff.1 hg).1
  · rcases hrow.2 with ⟨h, _⟩ | ⟨g', c', cur, h, hb, _, _⟩
    · cases h
    · cases h; exact hb
  · have hc := hrow.cells (g := g) rfl j (enc l[j]) (by simp [hj])
    have ea : ((⟨g, 0, none⟩ : Addr).add j) = ⟨g, j, none⟩ := by unfold Addr.add; split <;> simp_all
    rw [ea] at hc
    rw [hc, enc, List.getElem?_eq_getElem hj]; rfl

set_option maxRecDepth 100000 in
set_option maxHeartbeats 4000000 in
theorem append_any (L : List Nat) (hL : L.length ≤ 64) (Bg Bh : Nat) (w : World)
    (hseq : SeqStopsK Fence.wide 2 Try.prog 10 #[.pointer (some ⟨Bg, 0, none⟩), .pointer (some ⟨Bh, 0, none⟩)] (fun x : Nat => #[Value.int .i64 x]) (Below w.heap.size) (fun ys => ys = L) (fun pre => pre <+: L) L.length w) :
    Calls Try.prog 13 #[.slice none 0 0, .func (.func 10) #[] #[.pointer (some ⟨Bg, 0, none⟩), .pointer (some ⟨Bh, 0, none⟩)]] w fun e w' => ∃ v, e = .returned v ∧ Kept w.heap.size w' v L ∧ Below w.heap.size w w' := by
  have HS := Lib.hid hseq
  clear hseq
  refine (callsIn_wide (n := 3)).1 (callsIn_of_wp_marks Try.func13 rfl trivial ?_ rfl)
  simp only [Try.ntmps13, List.size_toArray, List.length_cons, List.length_nil, Nat.reduceAdd, Nat.reduceSub, Array.replicate_succ, Array.replicate_zero, List.push_toArray, List.append_toArray, List.nil_append, List.cons_append]
  refine wpIn_wide.2 ?_
  go_wp2
  have bN := Boxed.new w 30 (.slice none 0 0)
  have hb3 : Below w.heap.size w (w.alloc (.cells #[.slice none 0 0] 30)) := (Below.refl _ w).alloc (Nat.le_refl _) _
  obtain ⟨i0, hi, hq0, hq1, hq2⟩ := info_parts infoInt
  refine (wpIn_wide (n := 3)).1 ?_
  refine (wpIn_rangeFunc_ownG (F := Fence.wide) (n := 3) rfl (by decide) (gf := 10) (lb := #[.pointer (some ⟨Bg, 0, none⟩), .pointer (some ⟨Bh, 0, none⟩)]) rfl trivial (enters_of Try.func10 (by kernel_rfl) rfl)
    HS.out belowK_t (belowK_b (by simp)) hb3 (fun _ => rfl)
    (fun (pre : List Nat) W => (∃ v, Boxed W w.heap.size 30 v ∧ W.ownsRow w.heap.size 3 1 v pre.length (pre.map enc) ∧ (v = .slice none 0 0 ↔ pre = [])) ∧ Below w.heap.size w W)
    (fun _ _ _ => False)
    (OwnFrom.and (Own.from (holdsRow_own w.heap.size w.heap.size 30 3 1 (fun (pre : List Nat) => pre.length) (fun (pre : List Nat) => pre.map enc) (fun (pre : List Nat) v => v = .slice none 0 0 ↔ pre = [])) _) (ownFrom_below (Nat.le_refl _) (by simp)))
    (fun _ _ _ _ _ hs _ _ => hs)
    ?h0 ?a1 ?assign ?body ?done ?stop)
  case assign =>
    intro l x W K hK
    gi_wp2
    exact hK
  case h0 => exact ⟨⟨_, bN, ⟨rfl, .inl ⟨rfl, rfl⟩⟩, by simp⟩, hb3⟩
  case body =>
    rintro l pre x W ⟨⟨v, hv, hrow, hnil⟩, hB⟩ hlen
    have hlen8 : pre.length < 64 := Nat.lt_of_lt_of_le hlen hL
    have hc := hv.cell
    have hz := hB.size
    clear hlen
    gi_wp2_with (gi_at_builtin; refine wpListIn_append_own _ rfl _ _ 30 rfl w.heap.size 3 i0 (.int .i64 0) 1 8 Try.underlying30 hi hq0 hq1 hq2 rfl (by decide) _ _ _ rfl (hrow.alloc _) ⟨W.heap.size, 0, none⟩ 1 1 [.int .i64 (x : Nat)] rfl rfl (cell_one_new _ _ _) (by simp [Value.oneCell']) (by simp only [maxLen]; omega) (by omega) (by simp; omega) ?_; intro v' w1 hown' hgrow _; obtain ⟨g', cap', rfl⟩ := ownsRow_succ hown'; obtain ⟨hv1, hv2, hr2, hk2, hb2⟩ := hv.appended (by decide) hrow hB.size (by omega) hown' hgrow; have hc1 := hv1.cell; have hf1 := hv1.frozen)
    exact ⟨hk2.from _, hb2, ⟨_, hv2, by simpa [enc] using hr2, by simp⟩, hB.trans hb2⟩
  case done =>
    rintro D ys W hD rfl ⟨⟨v, hv, hrow, hnil⟩, hB⟩ hK
    have hc := hv.cell
    have hbK := belowK_b (w := w) (Nat.le_refl _) W D (.deferred (some [])) (.deferred none) (by simp at hD; omega) hK rfl rfl
    have hrow3 := ownsRow_putObj hrow (.deferred none) hK rfl
    go_wp2
    refine ⟨by simp, .inl ⟨_, _, rfl, run_takeDeferred hK, ?_⟩⟩
    refine ⟨_, results_tmp rfl _ _ _, ?_⟩
    exact ⟨v, rfl, ⟨hrow3, hnil⟩, hB.trans hbK⟩
  case stop =>
    rintro D c pre W _ _ h _
    exact h.elim
theorem collect_any (L : List Nat) (hL : L.length ≤ 64) (Bg Bh : Nat) (w : World)
    (hseq : SeqStopsK Fence.wide 2 Try.prog 10 #[.pointer (some ⟨Bg, 0, none⟩), .pointer (some ⟨Bh, 0, none⟩)] (fun x : Nat => #[Value.int .i64 x]) (Below w.heap.size) (fun ys => ys = L) (fun pre => pre <+: L) L.length w) :
    Calls Try.prog 12 #[.func (.func 10) #[] #[.pointer (some ⟨Bg, 0, none⟩), .pointer (some ⟨Bh, 0, none⟩)]] w fun e w' => ∃ v, e = .returned v ∧ Kept w.heap.size w' v L ∧ Below w.heap.size w w' := by
  go_enter Try.func12, Try.ntmps12
  go_wp2_with (go_at_call 13; refine (append_any L hL Bg Bh _ hseq).mono ?_; rintro e w' ⟨v, rfl, hk, hb⟩)
  go_ret
  exact ⟨v, rfl, hk, hb⟩
theorem order_of (L : List Nat) (hL : L.length ≤ 64) (h : Nat) (g : Int) (w : World)
    (hseq : ∀ W, W = (w.alloc (.cells #[.int .u64 h] 22)).alloc (.cells #[.int .i64 g] 3) → SeqStopsK Fence.wide 2 Try.prog 10 #[.pointer (some ⟨w.heap.size + 1, 0, none⟩), .pointer (some ⟨w.heap.size, 0, none⟩)] (fun x : Nat => #[Value.int .i64 x]) (Below W.heap.size) (fun ys => ys = L) (fun pre => pre <+: L) L.length W) :
    Calls Try.prog 8 #[.int .u64 h, .int .i64 g] w fun e w' => ∃ v, e = .returned v ∧ Kept w.heap.size w' v L ∧ Below w.heap.size w w' := by
  have HS := Lib.hid hseq
  clear hseq
  go_enter Try.func8, Try.ntmps8
  go_wp2_with (first
    | (go_at_call 6; refine (walk_any h g _).mono ?_; rintro e w' ⟨rfl, rfl⟩)
    | (go_at_call 12; refine (collect_any L hL _ _ _ (HS.out _ rfl)).mono ?_; rintro e w' ⟨v, rfl, hk, hb⟩))
  go_ret
  refine ⟨v, rfl, ⟨?_, hk.2⟩, ?_⟩
  · obtain ⟨⟨h1, h2⟩, _⟩ := hk
    refine ⟨h1, ?_⟩
    rcases h2 with h2 | ⟨g', c', cur, h3, h4, h5⟩
    · exact .inl h2
    · exact .inr ⟨g', c', cur, h3, by simp at h4; omega, h5⟩
  · exact below_step (((Below.refl _ w).alloc (Nat.le_refl _) _).alloc (by simp) _) hb
/-- Order: the places of the walk -/
theorem order_yes (h n : Nat) (hok : okN n) (w : World) :
    Calls Try.prog 8 #[.int .u64 h, .int .i64 n] w fun e w' => ∃ v, e = .returned v ∧ Kept w.heap.size w' v (wl h n) ∧ Below w.heap.size w w' := by
  refine order_of (wl h n) (by rw [wl_length]; exact okN_le hok) h n w fun W hW => ?_
  subst hW
  rw [wl_length]
  exact walk_stops 2 (by decide) _ _ _ h n hok _ (by simp) (by simp; omega) (by simp) (by simp; omega) (by simp) (by simp)
theorem order_no (h : Nat) (g : Int) (hg : ¬ ∃ k : Nat, g = k ∧ okN k) (w : World) :
    Calls Try.prog 8 #[.int .u64 h, .int .i64 g] w fun e w' => e = .returned (.slice none 0 0) ∧ Below w.heap.size w w' := by
  refine (order_of [] (by simp) h g w fun W hW => ?_).mono ?_
  · subst hW
    exact walk_stops_no 2 (by decide) _ _ _ g hg _ (by simp) (by simp)
  · rintro e w' ⟨v, rfl, hk, hb⟩
    obtain rfl := hk.2.2 rfl
    exact ⟨rfl, hb⟩

/-- two slices of the same numbers -/
theorem same_fn (f : Nat → Nat) (len g1 c1 g2 c2 : Nat) (w : World) (hl : len ≤ 64)
    (h1 : ∀ j, j < len → w.cell? ⟨g1, j, none⟩ = some (.int .i64 (f j : Nat))) (h2 : ∀ j, j < len → w.cell? ⟨g2, j, none⟩ = some (.int .i64 (f j : Nat))) :
    Calls Try.prog 9 #[.slice (some ⟨g1, 0, none⟩) len c1, .slice (some ⟨g2, 0, none⟩) len c2] w fun e w' => e = .returned (.bool true) ∧ w = w' := by
  have H1 := Lib.hid h1
  have H2 := Lib.hid h2
  clear h1 h2
  go_enter Try.func9, Try.ntmps9
  go_wp2
  go_loop [14] (fun i => ∃ k : Nat, k ≤ len ∧ i = .int .i64 k) (fun i => len - (intOf i).toNat)
  case atStart => exact ⟨0, by omega, rfl⟩
  case round =>
    obtain ⟨k, hk, rfl⟩ := hrel
    by_cases hlt : k < len
    · have a1 := H1.out k hlt
      have a2 := H2.out k hlt
      go_wp2
      go_round
      case rel => exact ⟨k + 1, by omega, by go_num⟩
      case measure => simp [intOf]; omega
    · go_wp2
      go_ret
      exact ⟨rfl, rfl⟩
/-- two slices of one list -/
theorem same_ints (l : List Nat) (g1 c1 g2 c2 : Nat) (w : World) (hl : l.length ≤ 64)
    (h1 : ∀ j, j < l.length → w.cell? ⟨g1, j, none⟩ = some (.int .i64 (l[j]?.getD 0 : Nat))) (h2 : ∀ j, j < l.length → w.cell? ⟨g2, j, none⟩ = some (.int .i64 (l[j]?.getD 0 : Nat))) :
    Calls Try.prog 9 #[.slice (some ⟨g1, 0, none⟩) l.length c1, .slice (some ⟨g2, 0, none⟩) l.length c2] w fun e w' => e = .returned (.bool true) ∧ w = w' :=
  same_fn (fun j => l[j]?.getD 0) l.length g1 c1 g2 c2 w hl h1 h2
/-- Order, cell by cell -/
theorem order_at (h n : Nat) (hok : okN n) (w : World) :
    Calls Try.prog 8 #[.int .u64 h, .int .i64 n] w fun e w' => ∃ g c, e = .returned (.slice (some ⟨g, 0, none⟩) n c) ∧ g < w'.heap.size ∧ (∀ j, j < n → w'.cell? ⟨g, j, none⟩ = some (.int .i64 (plc h n j : Nat))) ∧ Below w.heap.size w w' := by
  refine (order_yes h n hok w).mono ?_
  rintro e w' ⟨v, rfl, hk, hb⟩
  have hne : wl h n ≠ [] := fun e => by
    have h1 := wl_length h n
    have h2 := okN_pos hok
    rw [e] at h1; simp at h1; omega
  obtain ⟨g, c, rfl, hg, _, hcell⟩ := hk.cells hne
  rw [wl_length] at hcell ⊢
  exact ⟨g, c, rfl, hg, fun j hj => by rw [hcell j hj, wl_get h n j hj]; rfl, hb⟩
/-- two slices without a cell -/
theorem same_none (p1 p2 : Option Addr) (c1 c2 : Nat) (w : World) :
    Calls Try.prog 9 #[.slice p1 0 c1, .slice p2 0 c2] w fun e w' => e = .returned (.bool true) ∧ w = w' := by
  go_enter Try.func9, Try.ntmps9
  go_wp2
  refine wp_loop_rounds 1 ?_
  rw [rounds_succ]
  go_wp2
  go_ret
  exact ⟨rfl, rfl⟩

set_option maxHeartbeats 1000000 in
/-- the chapter's example -/
theorem alive_any (w : World) :
    Calls Try.prog 5 #[] w fun e w' => e = .returned (.bool true) ∧ Below w.heap.size w w' := by
  have H' : ∀ wx, Calls Try.prog 8 #[.int .u64 1, .int .i64 4] wx fun e w' => ∃ v, e = .returned v ∧ Kept wx.heap.size w' v [1, 2, 0, 3] ∧ Below wx.heap.size wx w' := fun wx => order_yes 1 4 (by decide) wx
  have r1' : ∀ wx, Calls Try.prog 7 #[.int .i64 64] wx fun e w' => e = .returned (.bool true) ∧ wx = w' := fun wx => right_yes 64 (by decide) wx
  have r2' : ∀ wx, Calls Try.prog 7 #[.int .i64 3] wx fun e w' => e = .returned (.bool false) ∧ wx = w' := fun wx => right_no 3 (fun ⟨n, h, h'⟩ => by
    obtain rfl : n = 3 := by omega
    revert h'; decide) wx
  have H := Lib.hid H'
  have r1 := Lib.hid r1'
  have r2 := Lib.hid r2'
  clear H' r1' r2'
  go_enter Try.func5, Try.ntmps5
  go_wp2_with (first
    | (go_at_call 8; refine (H.out _).mono ?_; rintro e w1 ⟨v, rfl, hk, hb⟩; obtain ⟨g, c, rfl, hg, hbase, hcell⟩ := hk.cells (by decide))
    | (go_at_call 7; (with_reducible refine (r1.out _).mono ?_); rintro e w' ⟨rfl, rfl⟩)
    | (go_at_call 7; (with_reducible refine (r2.out _).mono ?_); rintro e w' ⟨rfl, rfl⟩))
  have hB := Lib.hid (show Below w.heap.size w (w1.alloc (.cells #[.int .i64 1, .int .i64 2, .int .i64 0, .int .i64 3] 3)) from hb.alloc hb.size _)
  have hz := hb.size
  have hS : Calls Try.prog 9 #[.slice (some ⟨g, 0, none⟩) 4 c, .slice (some ⟨w1.heap.size, 0, none⟩) 4 4] (w1.alloc (.cells #[.int .i64 1, .int .i64 2, .int .i64 0, .int .i64 3] 3)) fun e w' => e = .returned (.bool true) ∧ (w1.alloc (.cells #[.int .i64 1, .int .i64 2, .int .i64 0, .int .i64 3] 3)) = w' := same_ints [1, 2, 0, 3] g c w1.heap.size 4 (w1.alloc (.cells #[.int .i64 1, .int .i64 2, .int .i64 0, .int .i64 3] 3)) (by decide)
    (fun j hj => (((Below.refl _ w1).alloc (Nat.le_refl _) _).cell (p := ⟨g, j, none⟩) hg).trans (hcell j hj))
    (fun j hj => by
      match j, hj with
      | 0, _ => simp
      | 1, _ => simp
      | 2, _ => simp
      | 3, _ => simp
      | j + 4, h => simp at h; omega)
  have HS := Lib.hid hS
  clear hS hk hcell hb hz
  with_reducible refine HS.out.mono ?_
  rintro e w' ⟨rfl, rfl⟩
  go_wp2_with (first
    | (go_at_call 7; (with_reducible refine (r1.out _).mono ?_); rintro e w' ⟨rfl, rfl⟩)
    | (go_at_call 7; (with_reducible refine (r2.out _).mono ?_); rintro e w' ⟨rfl, rfl⟩))
  all_goals (go_ret; exact ⟨by rfl, hB.out⟩)
end Go.Proofs.Ytnfjpiilhchmgaa.probe
