/- group: the contracts of the methods that write a group. -/
import Derived.Test.YtlgjmnckdjkngaaDoorGroupReads
namespace Go.Proofs.YtlgjmnckdjkngaaDoor.group
open Go.ChangeShapes Go.WideShapes Go.ChangeAt Go.RowKit swar trap under meter tail
set_option linter.unusedSimpArgs false
set_option linter.unusedVariables false

/-- a step of a group: what it holds behind it; all else is as it was -/
structure GStep (B o : Nat) (g : Gp) (w w' : World) : Prop where
  past : Past [B] w w'
  side : Beside B o 25 w w'
  at' : GAt B o g w'
theorem GStep.of {B o : Nat} {g : Gp} {w w' : World} (h : GAt B o g w) (hb : Below w.heap.size w w') : GStep B o g w w' := ⟨Past.of hb, Beside.of_block (hb.block B h.lt), h.below hb⟩
theorem GStep.trans {B o : Nat} {g g' : Gp} {x y z : World} (h : GStep B o g x y) (k : GStep B o g' y z) : GStep B o g' x z := ⟨h.past.trans k.past, h.side.trans k.side, k.at'⟩
theorem GStep.below {B o : Nat} {g : Gp} {x y z : World} (h : GStep B o g x y) (k : Below y.heap.size y z) : GStep B o g x z := h.trans (.of h.at' k)
theorem GStep.drewN {B o : Nat} {g : Gp} {x y : World} (h : GStep B o g x y) (q : Nat) : GStep B o g x (y.drewN q) := h.below (below_drewN' _ q)
/-- what is known of a world behind stores into the cells of a group -/
structure GPut (B o i : Nat) (n k v h : Nat) (x w : World) : Prop where
  past : Past [B] x w
  side : Beside B o 25 x w
  wd : w.cell? ⟨B, o, none⟩ = some (.int .u64 (n : Nat))
  ky : w.cell? ⟨B, o + 1 + i * 3, none⟩ = some (.int .u64 (k : Nat))
  vl : w.cell? ⟨B, o + 1 + i * 3 + 1, none⟩ = some (.int .u64 (v : Nat))
  hs : w.cell? ⟨B, o + 1 + i * 3 + 2, none⟩ = some (.int .u64 (h : Nat))
  rest : ∀ j, j < 8 → j ≠ i → ∀ d, d < 3 → w.cell? ⟨B, o + 1 + j * 3 + d, none⟩ = x.cell? ⟨B, o + 1 + j * 3 + d, none⟩
theorem GPut.step {B o i : Nat} {g : Gp} {s : Sl} {x w : World} (hi : i < 8) (hx : GAt B o g x) (p : GPut B o i (word (g.put i s)) s.key s.val s.hash x w) : GStep B o (g.put i s) x w := by
  refine ⟨p.past, p.side, p.wd, fun j hj => ?_, fun j hj => ?_, fun j hj => ?_, fun j => ?_⟩
  · by_cases e : j = i
    · subst e; rw [put_same]; exact p.ky
    · rw [put_ne g s e]; exact (p.rest j hj e 0 (by decide)).trans (hx.key j hj)
  · by_cases e : j = i
    · subst e; rw [put_same]; exact p.vl
    · rw [put_ne g s e]; exact (p.rest j hj e 1 (by decide)).trans (hx.val j hj)
  · by_cases e : j = i
    · subst e; rw [put_same]; exact p.hs
    · rw [put_ne g s e]; exact (p.rest j hj e 2 (by decide)).trans (hx.hash j hj)
  · rw [p.side.frozen]; exact hx.fz j

theorem off_ne {B a b : Nat} (h : a ≠ b) : (⟨B, a, none⟩ : Addr) ≠ ⟨B, b, none⟩ := by intro e; injection e with _ e _; exact h e
theorem GPut.stores {B o i : Nat} {g : Gp} {x w1 : World} (hi : i < 8) (hx : GAt B o g x) (hb : Below x.heap.size x w1) (n k v h m : Nat) :
    GPut B o i n k v h x (((((w1.setCell ⟨B, o, none⟩ (.int .u64 (n : Nat))).drewN m).setCell ⟨B, o + 1 + i * 3, none⟩ (.int .u64 (k : Nat))).setCell ⟨B, o + 1 + i * 3 + 1, none⟩ (.int .u64 (v : Nat))).setCell ⟨B, o + 1 + i * 3 + 2, none⟩ (.int .u64 (h : Nat))) := by
  have hw := hx.below hb
  have e0 := hw.word
  have e1 := hw.key i hi
  have e2 := hw.val i hi
  have e3 := hw.hash i hi
  have p1 : Past [B] x (w1.setCell ⟨B, o, none⟩ (.int .u64 (n : Nat))) := (Past.of (d := [B]) hb).store (.inl (by simp)) _
  have s1 : Beside B o 25 x (w1.setCell ⟨B, o, none⟩ (.int .u64 (n : Nat))) := (Beside.of_block (hb.block B hx.lt)).store o (by omega) (by omega) _
  have c1 : ∀ j, j ≠ o → (w1.setCell ⟨B, o, none⟩ (.int .u64 (n : Nat))).cell? ⟨B, j, none⟩ = w1.cell? ⟨B, j, none⟩ := fun j hj => World.cell?_setCell_other _ _ _ _ (off_ne (Ne.symm hj))
  have c0 : (w1.setCell ⟨B, o, none⟩ (.int .u64 (n : Nat))).cell? ⟨B, o, none⟩ = some (.int .u64 (n : Nat)) := World.cell?_setCell_same' _ _ _ (by rw [e0]; rfl)
  have p2 := p1.drewN m
  have s2 : Beside B o 25 x ((w1.setCell ⟨B, o, none⟩ (.int .u64 (n : Nat))).drewN m) := ⟨s1.cells, s1.frozen⟩
  have c2 : ∀ j, ((w1.setCell ⟨B, o, none⟩ (.int .u64 (n : Nat))).drewN m).cell? ⟨B, j, none⟩ = (w1.setCell ⟨B, o, none⟩ (.int .u64 (n : Nat))).cell? ⟨B, j, none⟩ := fun j => rfl
  generalize (w1.setCell ⟨B, o, none⟩ (.int .u64 (n : Nat))).drewN m = w2 at p2 s2 c2 ⊢
  have d0 := (c2 o).trans c0
  have d1 : ∀ j, j ≠ o → w2.cell? ⟨B, j, none⟩ = w1.cell? ⟨B, j, none⟩ := fun j hj => (c2 j).trans (c1 j hj)
  refine ⟨((p2.store (.inl (by simp)) _).store (.inl (by simp)) _).store (.inl (by simp)) _, ((s2.store _ (by omega) (by omega) _).store _ (by omega) (by omega) _).store _ (by omega) (by omega) _, ?_, ?_, ?_, ?_, ?_⟩
  · rw [World.cell?_setCell_other _ _ _ _ (off_ne (by omega)), World.cell?_setCell_other _ _ _ _ (off_ne (by omega)), World.cell?_setCell_other _ _ _ _ (off_ne (by omega))]; exact d0
  · rw [World.cell?_setCell_other _ _ _ _ (off_ne (by omega)), World.cell?_setCell_other _ _ _ _ (off_ne (by omega))]
    exact World.cell?_setCell_same' _ _ _ (by rw [d1 _ (by omega), e1]; rfl)
  · rw [World.cell?_setCell_other _ _ _ _ (off_ne (by omega))]
    exact World.cell?_setCell_same' _ _ _ (by rw [World.cell?_setCell_other _ _ _ _ (off_ne (by omega)), d1 _ (by omega), e2]; rfl)
  · exact World.cell?_setCell_same' _ _ _ (by rw [World.cell?_setCell_other _ _ _ _ (off_ne (by omega)), World.cell?_setCell_other _ _ _ _ (off_ne (by omega)), d1 _ (by omega), e3]; rfl)
  · intro j hj hne d hd
    rw [World.cell?_setCell_other _ _ _ _ (off_ne (by omega)), World.cell?_setCell_other _ _ _ _ (off_ne (by omega)), World.cell?_setCell_other _ _ _ _ (off_ne (by omega)), d1 _ (by omega)]
    exact World.cell?_of_block (hb.block B hx.lt)
theorem must_nil (v : Int) (w : World) : Calls Tryd.prog 90 #[.int .u64 v, .nilIface] w fun e w' => e = .returned (.int .u64 v) ∧ w = w' := by
  go_enter Tryd.func90, Tryd.ntmps90
  go_wp2_with (go_at_call 85; refine (raise_nil _).mono ?_; rintro e w' ⟨rfl, rfl⟩)
  go_ret
  exact ⟨rfl, rfl⟩
theorem set_any (B o : Nat) (g : Gp) (i : Nat) (s : Sl) (hi : i < 8) (w : World) (h : GAt B o g w) :
    Calls Tryd.prog 87 #[.pointer (some ⟨B, o, none⟩), .int .i64 i, .int .u8 (byt s : Nat), entV s.key s.val s.hash] w fun e w' => e = .returned (.tuple #[]) ∧ GStep B o (g.put i s) w w' := by
  have hw := h.word
  have hlt := h.lt
  have h1 := h.key i hi
  have h2 := h.val i hi
  have h3 := h.hash i hi
  have hf := h.fz
  have hi' : (i : Int) < 8 := by omega
  have c := ctrl.set_yes (group.word g) (byt s) i (word_lt g) hi (byt_ok s)
  rw [word_put g hi s] at c
  generalize byt s = bs at c
  generalize hn : group.word (g.put i s) = n at c
  go_enter Tryd.func87, Tryd.ntmps87
  go_wp2_with (first
    | (go_at_call 91; refine (c _).mono ?_; rintro e w' ⟨rfl, q, rfl⟩)
    | (go_at_call 90; refine (must_nil _ _).mono ?_; rintro e w' ⟨rfl, rfl⟩))
  refine wp_region_tail_drew 6 (by kernel_rfl) (by kernel_rfl) ?_
  simp only [List.take_succ_cons, List.take_zero, List.drop_succ_cons, List.drop_zero]
  repeat (quiet_step (fail))
  refine wpQuiet_nil ?_
  intro w4 hw4
  obtain ⟨n4, rfl⟩ := hw4
  go_wp2
  go_end0
  refine ⟨rfl, ?_⟩
  subst hn
  exact GPut.step hi h (GPut.stores hi h (under.below_step (new_block w _) (below_drewN' _ q)) _ _ _ _ n4)
theorem h2_q (h : Nat) (hh : h < 18446744073709551616) (w : World) : Calls Tryd.prog 69 #[.int .u64 h] w fun e w' => e = .returned (.int .u8 ((h % 128 : Nat) : Int)) ∧ w' = w := (split.h2_any h hh w).mono fun e w' ⟨he, hw⟩ => ⟨he, hw.symm⟩
theorem put_off (B o : Nat) (i : Int) (k v h : Nat) (hi : i < 0 ∨ 8 ≤ i) (w : World) (x : Addr) (hr : w.cell? ⟨0, 0, none⟩ = some (errs.errV x)) :
    Calls Tryd.prog 75 #[.agg #[.pointer (some ⟨B, o, none⟩)], .int .i64 i, entV k v h] w fun e w' => e = .returned (.tuple #[.bool false, errs.errV x]) ∧ Below w.heap.size w w' := by
  have c := fun W (hb : Below w.heap.size w W) => need_range B o i false hi W _ ((hb.cell (World.block_lt_of_cell? w _ hr)).trans hr)
  go_enter Tryd.func75, Tryd.ntmps75
  go_wp2_with (go_at_call 71; refine (c _ (two_new w _ _)).mono ?_; rintro e w' ⟨rfl, q, rfl⟩)
  go_ret2
  exact ⟨rfl, under.below_step (two_new w _ _) (below_drewN' _ q)⟩
theorem put_full (B o : Nat) (g : Gp) (i k v h : Nat) (hi : i < 8) (hg : g.Ok) (hf : is 3 g i = true) (w : World) (ha : GAt B o g w) (x : Addr) (hr : w.cell? ⟨4, 0, none⟩ = some (errs.errV x)) :
    Calls Tryd.prog 75 #[.agg #[.pointer (some ⟨B, o, none⟩)], .int .i64 i, entV k v h] w fun e w' => e = .returned (.tuple #[.bool false, errs.errV x]) ∧ Below w.heap.size w w' := by
  have c := fun W (hb : Below w.heap.size w W) => need_is B o g i false hi hg W (ha.below hb) _ ((hb.cell (World.block_lt_of_cell? w _ hr)).trans hr)
  rw [hf] at c
  go_enter Tryd.func75, Tryd.ntmps75
  go_wp2_with (go_at_call 71; refine (c _ (two_new w _ _)).mono ?_; rintro e w' ⟨rfl, rfl⟩)
  go_ret2
  exact ⟨rfl, two_new w _ _⟩
theorem put_free (B o : Nat) (g : Gp) (i k v h : Nat) (hh : h < 18446744073709551616) (hi : i < 8) (hg : g.Ok) (hf : is 3 g i = false) (w : World) (ha : GAt B o g w) (x : Addr) (hr : w.cell? ⟨4, 0, none⟩ = some (errs.errV x)) :
    Calls Tryd.prog 75 #[.agg #[.pointer (some ⟨B, o, none⟩)], .int .i64 i, entV k v h] w fun e w' => e = .returned (.tuple #[.bool (is 2 g i), .nilIface]) ∧ GStep B o (g.put i ⟨3, k, v, h⟩) w w' := by
  have c := fun W (hb : Below w.heap.size w W) => need_is B o g i false hi hg W (ha.below hb) _ ((hb.cell (World.block_lt_of_cell? w _ hr)).trans hr)
  rw [hf] at c
  have hw := ha.word
  have hlt := ha.lt
  have b2 : (((byt (g i) : Nat) : Int) == 254) = is 2 g i := by
    unfold is; rw [Bool.eq_iff_iff, decide_eq_true_eq, beq_iff_eq, ← byt_2 (hg i)]; omega
  have cs := fun W (hb : Below w.heap.size w W) => set_any B o g i ⟨3, k, v, h⟩ hi W (ha.below hb)
  rw [show byt ⟨3, k, v, h⟩ = h % 128 from rfl] at cs
  generalize g.put i ⟨3, k, v, h⟩ = g' at cs ⊢
  go_enter Tryd.func75, Tryd.ntmps75
  go_wp2_with (first
    | (go_at_call 71; refine (c _ (two_new w _ _)).mono ?_; rintro e w' ⟨rfl, rfl⟩)
    | (go_at_call 86; refine (ctrl.get_yes (group.word g) i (word_lt g) hi _).mono ?_; rintro e w' ⟨rfl, rfl⟩; rw [ln_word g hi]))
  refine wp_region_tail_drew 7 (by kernel_rfl) (by kernel_rfl) ?_
  simp only [List.take_succ_cons, List.take_zero, List.drop_succ_cons, List.drop_zero]
  repeat (quiet_step ((go_at_call 69; exact Calls.quiet_of_same (h2_q _ hh _))))
  refine wpQuiet_nil ?_
  intro w4 hw4
  obtain ⟨n4, rfl⟩ := hw4
  go_wp2_with (go_at_call 87; refine (cs _ (under.below_step (two_new w _ _) (below_drewN' _ n4))).mono ?_; rintro e w' ⟨rfl, hs⟩)
  go_ret2
  exact ⟨rfl, (GStep.of ha (under.below_step (two_new w _ _) (below_drewN' _ n4))).trans hs⟩
theorem val_off (B o : Nat) (i : Int) (v : Nat) (hi : i < 0 ∨ 8 ≤ i) (w : World) (x : Addr) (hr : w.cell? ⟨0, 0, none⟩ = some (errs.errV x)) :
    Calls Tryd.prog 55 #[.agg #[.pointer (some ⟨B, o, none⟩)], .int .i64 i, .int .u64 v] w fun e w' => e = .returned (errs.errV x) ∧ Below w.heap.size w w' := by
  have c := fun W (hb : Below w.heap.size w W) => need_range B o i true hi W _ ((hb.cell (World.block_lt_of_cell? w _ hr)).trans hr)
  go_enter Tryd.func55, Tryd.ntmps55
  go_wp2_with (go_at_call 71; refine (c _ (new_block w _)).mono ?_; rintro e w' ⟨rfl, q, rfl⟩)
  go_ret
  exact ⟨rfl, under.below_step (new_block w _) (below_drewN' _ q)⟩
theorem val_free (B o : Nat) (g : Gp) (i v : Nat) (hi : i < 8) (hg : g.Ok) (hf : is 3 g i = false) (w : World) (ha : GAt B o g w) (x : Addr) (hr : w.cell? ⟨4, 0, none⟩ = some (errs.errV x)) :
    Calls Tryd.prog 55 #[.agg #[.pointer (some ⟨B, o, none⟩)], .int .i64 i, .int .u64 v] w fun e w' => e = .returned (errs.errV x) ∧ Below w.heap.size w w' := by
  have c := fun W (hb : Below w.heap.size w W) => need_is B o g i true hi hg W (ha.below hb) _ ((hb.cell (World.block_lt_of_cell? w _ hr)).trans hr)
  rw [hf] at c
  go_enter Tryd.func55, Tryd.ntmps55
  go_wp2_with (go_at_call 71; refine (c _ (new_block w _)).mono ?_; rintro e w' ⟨rfl, rfl⟩)
  go_ret
  exact ⟨rfl, new_block w _⟩
theorem GStep.val {B o i : Nat} {g : Gp} {x w1 : World} (hi : i < 8) (hf : is 3 g i = true) (hx : GAt B o g x) (hb : Below x.heap.size x w1) (v : Nat) :
    GStep B o (g.put i { g i with val := v }) x (w1.setCell ⟨B, o + 1 + i * 3 + 1, none⟩ (.int .u64 (v : Nat))) := by
  have hw := hx.below hb
  have e0 := hw.word
  have e1 := hw.key i hi
  have e2 := hw.val i hi
  have e3 := hw.hash i hi
  have p1 : Past [B] x (w1.setCell ⟨B, o + 1 + i * 3 + 1, none⟩ (.int .u64 (v : Nat))) := (Past.of (d := [B]) hb).store (.inl (by simp)) _
  have s1 : Beside B o 25 x (w1.setCell ⟨B, o + 1 + i * 3 + 1, none⟩ (.int .u64 (v : Nat))) := (Beside.of_block (hb.block B hx.lt)).store _ (by omega) (by omega) _
  have c1 : ∀ j, j ≠ o + 1 + i * 3 + 1 → (w1.setCell ⟨B, o + 1 + i * 3 + 1, none⟩ (.int .u64 (v : Nat))).cell? ⟨B, j, none⟩ = w1.cell? ⟨B, j, none⟩ := fun j hj => World.cell?_setCell_other _ _ _ _ (off_ne (Ne.symm hj))
  refine GPut.step hi hx ⟨p1, s1, ?_, ?_, ?_, ?_, fun j hj hne d hd => ?_⟩
  · rw [c1 _ (by omega), e0]
    have e : word (g.put i { g i with val := v }) = word g := by
      rw [← word_put g hi]
      have := word_put g hi (g i)
      rw [show byt { g i with val := v } = byt (g i) from rfl, this]
      congr 1; funext j; unfold Gp.put; split
      · next h => rw [h]
      · rfl
    rw [e]
  · rw [c1 _ (by omega), e1]
  · exact World.cell?_setCell_same' _ _ _ (by rw [e2]; rfl)
  · rw [c1 _ (by omega), e3]
  · rw [c1 _ (by omega)]; exact World.cell?_of_block (hb.block B hx.lt)
theorem val_full (B o : Nat) (g : Gp) (i v : Nat) (hi : i < 8) (hg : g.Ok) (hf : is 3 g i = true) (w : World) (ha : GAt B o g w) (x : Addr) (hr : w.cell? ⟨4, 0, none⟩ = some (errs.errV x)) :
    Calls Tryd.prog 55 #[.agg #[.pointer (some ⟨B, o, none⟩)], .int .i64 i, .int .u64 v] w fun e w' => e = .returned .nilIface ∧ GStep B o (g.put i { g i with val := v }) w w' := by
  have c := fun W (hb : Below w.heap.size w W) => need_is B o g i true hi hg W (ha.below hb) _ ((hb.cell (World.block_lt_of_cell? w _ hr)).trans hr)
  rw [hf] at c
  have hlt := ha.lt
  have h1 := ha.key i hi
  have h2 := ha.val i hi
  have h3 := ha.hash i hi
  have hfz := ha.fz
  have hi' : (i : Int) < 8 := by omega
  have hs := (GStep.val hi hf ha (Below.refl _ w) v).below (new_block _ (.cells #[.pointer (some ⟨B, o, none⟩)] 69))
  generalize g.put i { g i with val := v } = g' at hs ⊢
  go_enter Tryd.func55, Tryd.ntmps55
  go_wp2_with (go_at_call 71; refine (c _ (new_block w _)).mono ?_; rintro e w' ⟨rfl, rfl⟩)
  go_ret
  exact ⟨rfl, hs⟩
theorem erase_off (B o : Nat) (i : Int) (hi : i < 0 ∨ 8 ≤ i) (w : World) (x : Addr) (hr : w.cell? ⟨0, 0, none⟩ = some (errs.errV x)) :
    Calls Tryd.prog 76 #[.agg #[.pointer (some ⟨B, o, none⟩)], .int .i64 i] w fun e w' => e = .returned (.tuple #[.bool false, errs.errV x]) ∧ Below w.heap.size w w' := by
  have c := fun W (hb : Below w.heap.size w W) => need_range B o i true hi W _ ((hb.cell (World.block_lt_of_cell? w _ hr)).trans hr)
  go_enter Tryd.func76, Tryd.ntmps76
  go_wp2_with (go_at_call 71; refine (c _ (new_block w _)).mono ?_; rintro e w' ⟨rfl, q, rfl⟩)
  go_ret2
  exact ⟨rfl, under.below_step (new_block w _) (below_drewN' _ q)⟩
theorem erase_free (B o : Nat) (g : Gp) (i : Nat) (hi : i < 8) (hg : g.Ok) (hf : is 3 g i = false) (w : World) (ha : GAt B o g w) (x : Addr) (hr : w.cell? ⟨4, 0, none⟩ = some (errs.errV x)) :
    Calls Tryd.prog 76 #[.agg #[.pointer (some ⟨B, o, none⟩)], .int .i64 i] w fun e w' => e = .returned (.tuple #[.bool false, errs.errV x]) ∧ Below w.heap.size w w' := by
  have c := fun W (hb : Below w.heap.size w W) => need_is B o g i true hi hg W (ha.below hb) _ ((hb.cell (World.block_lt_of_cell? w _ hr)).trans hr)
  rw [hf] at c
  go_enter Tryd.func76, Tryd.ntmps76
  go_wp2_with (go_at_call 71; refine (c _ (new_block w _)).mono ?_; rintro e w' ⟨rfl, rfl⟩)
  go_ret2
  exact ⟨rfl, new_block w _⟩
theorem erase_full (B o : Nat) (g : Gp) (i : Nat) (hi : i < 8) (hg : g.Ok) (hf : is 3 g i = true) (w : World) (ha : GAt B o g w) (x : Addr) (hr : w.cell? ⟨4, 0, none⟩ = some (errs.errV x)) :
    Calls Tryd.prog 76 #[.agg #[.pointer (some ⟨B, o, none⟩)], .int .i64 i] w fun e w' => e = .returned (.tuple #[.bool (!opens g), .nilIface]) ∧ GStep B o (g.put i (erased g)) w w' := by
  have c := fun W (hb : Below w.heap.size w W) => need_is B o g i true hi hg W (ha.below hb) _ ((hb.cell (World.block_lt_of_cell? w _ hr)).trans hr)
  rw [hf] at c
  have hlt := ha.lt
  have co := fun W (hb : Below w.heap.size w W) => open_any B o g hg W (ha.below hb)
  cases ho : opens g
  · have cs := fun W (hb : Below w.heap.size w W) => set_any B o g i .gone hi W (ha.below hb)
    rw [show byt .gone = 254 from rfl, show Sl.gone.key = 0 from rfl, show Sl.gone.val = 0 from rfl, show Sl.gone.hash = 0 from rfl] at cs
    rw [ho] at co
    rw [show erased g = .gone from by unfold erased; rw [ho]; rfl]
    generalize g.put i .gone = g' at cs ⊢
    go_enter Tryd.func76, Tryd.ntmps76
    go_wp2_with (first
      | (go_at_call 71; refine (c _ (new_block w _)).mono ?_; rintro e w' ⟨rfl, rfl⟩)
      | (go_at_call 50; refine (co _ (new_block w _)).mono ?_; rintro e w1 ⟨rfl, hb1⟩; have hb2 := under.below_step (new_block w _) hb1; have hc1 := hb1.cell (p := ⟨w.heap.size, 0, none⟩) (by simp))
      | (go_at_call 87; refine (cs _ (by first | exact hb2 | exact under.below_step hb2 (new_block _ _))).mono ?_; rintro e w' ⟨rfl, hs⟩))
    go_ret2
    exact ⟨rfl, (GStep.of ha hb2).trans hs⟩
  · have cs := fun W (hb : Below w.heap.size w W) => set_any B o g i .empty hi W (ha.below hb)
    rw [show byt .empty = 128 from rfl, show Sl.empty.key = 0 from rfl, show Sl.empty.val = 0 from rfl, show Sl.empty.hash = 0 from rfl] at cs
    rw [ho] at co
    rw [show erased g = .empty from by unfold erased; rw [ho]; rfl]
    generalize g.put i .empty = g' at cs ⊢
    go_enter Tryd.func76, Tryd.ntmps76
    go_wp2_with (first
      | (go_at_call 71; refine (c _ (new_block w _)).mono ?_; rintro e w' ⟨rfl, rfl⟩)
      | (go_at_call 50; refine (co _ (new_block w _)).mono ?_; rintro e w1 ⟨rfl, hb1⟩; have hb2 := under.below_step (new_block w _) hb1; have hc1 := hb1.cell (p := ⟨w.heap.size, 0, none⟩) (by simp))
      | (go_at_call 87; refine (cs _ (by first | exact hb2 | exact under.below_step hb2 (new_block _ _))).mono ?_; rintro e w' ⟨rfl, hs⟩))
    go_ret2
    exact ⟨rfl, (GStep.of ha hb2).trans hs⟩
/-- a new group's cells -/
def newRow : Array Value := #[.int .u64 9259542123273814144, .int .u64 0, .int .u64 0, .int .u64 0, .int .u64 0, .int .u64 0, .int .u64 0, .int .u64 0, .int .u64 0, .int .u64 0, .int .u64 0, .int .u64 0, .int .u64 0, .int .u64 0, .int .u64 0, .int .u64 0, .int .u64 0, .int .u64 0, .int .u64 0, .int .u64 0, .int .u64 0, .int .u64 0, .int .u64 0, .int .u64 0, .int .u64 0]
set_option maxRecDepth 20000 in
theorem new_any (w : World) : Calls Tryd.prog 44 #[] w fun e w' => e = .returned (.pointer (some ⟨w.heap.size, 0, none⟩)) ∧ w' = w.alloc (.cells newRow 89) := by
  go_enter Tryd.func44, Tryd.ntmps44
  go_wp2_with (go_at_call 62; refine (ctrl.new_any _).mono ?_; rintro e w' ⟨rfl, rfl⟩)
  go_ret
  exact ⟨rfl, rfl⟩
end Go.Proofs.YtlgjmnckdjkngaaDoor.group
