/- group: the contracts of the methods that leave a group as it is. -/
import Derived.Test.YtplhgcidegngiaaDoorGroupAt
namespace Go.Proofs.YtplhgcidegngiaaDoor.group
open Go.ChangeShapes Go.WideShapes Go.ChangeAt Go.RowKit swar trap under meter
set_option linter.unusedSimpArgs false
set_option linter.unusedVariables false

theorem need_is (B o : Nat) (g : Gp) (i : Nat) (b : Bool) (hi : i < 8) (hg : g.Ok) (w : World) (h : GAt B o g w) (st : Value) (hr : w.cell? ⟨0, 0, none⟩ = some st) :
    Calls Tryd.prog 63 #[.pointer (some ⟨B, o, none⟩), .int .i64 i, .bool b] w fun e w' => e = .returned (if is 3 g i = b then .nilIface else st) ∧ w = w' := by
  have c := isFull_any B o g i hi hg w h
  have d1 : decide ((i : Int) < 0) = false := decide_eq_false (by omega)
  have d2 : decide (8 ≤ (i : Int)) = false := decide_eq_false (by omega)
  generalize is 3 g i = u at c ⊢
  cases u <;> cases b
  all_goals
    go_enter Tryd.func63, Tryd.ntmps63
    go_wp2_with (go_at_call 77; refine c.mono ?_; rintro e w' ⟨rfl, rfl⟩)
    go_ret
    exact ⟨by simp, rfl⟩
/-- an entry's value -/
abbrev entV (k v h : Nat) : Value := .agg #[.int .u64 (k : Nat), .int .u64 (v : Nat), .int .u64 (h : Nat)]
/-- the box that a view's receiver is put into -/
abbrev boxed (B o : Nat) (w : World) : World := w.alloc (.cells #[.pointer (some ⟨B, o, none⟩)] 62)
theorem box_below (B o : Nat) (w : World) : Below w.heap.size w (boxed B o w) := new_block w _
theorem box_step {B o : Nat} {w w' : World} (h : Below (boxed B o w).heap.size (boxed B o w) w') : Below w.heap.size w w' := under.below_step (box_below B o w) h
theorem below_drewN' (w : World) (q : Nat) : Below w.heap.size w (w.drewN q) := ⟨rfl, rfl, rfl, Nat.le_refl _, fun _ _ => rfl⟩
theorem two_new (w : World) (o p : Obj) : Below w.heap.size w ((w.alloc o).alloc p) := ((Below.refl _ w).alloc (Nat.le_refl _) _).alloc (by simp) _
theorem at_off (B o : Nat) (i : Int) (hi : i < 0 ∨ 8 ≤ i) (w : World) (x : Addr) (hr : w.cell? ⟨1, 0, none⟩ = some (errs.errV x)) :
    Calls Tryd.prog 64 #[.agg #[.pointer (some ⟨B, o, none⟩)], .int .i64 i] w fun e w' => e = .returned (.tuple #[entV 0 0 0, .bool false]) ∧ Below w.heap.size w w' := by
  have c := fun W (hb : Below w.heap.size w W) => need_range B o i true hi W _ ((hb.cell (World.block_lt_of_cell? w _ hr)).trans hr)
  go_enter Tryd.func64, Tryd.ntmps64
  go_wp2_with (go_at_call 63; refine (c _ (two_new w _ _)).mono ?_; rintro e w' ⟨rfl, q, rfl⟩)
  exact bodyPost_ret (v := .tuple #[entV 0 0 0, .bool false]) (by simp [results, Tryd.results64, go_sem]) rfl ⟨rfl, (((under.below_step (two_new w _ _) (below_drewN' _ q)).setCell (by simp) _).setCell (by simp) _).setCell (by simp) _⟩
theorem at_is (B o : Nat) (g : Gp) (i : Nat) (hi : i < 8) (hg : g.Ok) (w : World) (h : GAt B o g w) (x : Addr) (hr : w.cell? ⟨0, 0, none⟩ = some (errs.errV x)) :
    Calls Tryd.prog 64 #[.agg #[.pointer (some ⟨B, o, none⟩)], .int .i64 i] w fun e w' => e = .returned (.tuple #[entV (g i).key (g i).val (g i).hash, .bool (is 3 g i)]) ∧ Below w.heap.size w w' := by
  have c := fun W (hb : Below w.heap.size w W) => need_is B o g i true hi hg W (h.below hb) _ ((hb.cell (World.block_lt_of_cell? w _ hr)).trans hr)
  have hlt := h.lt
  have h1 := h.key i hi
  have h2 := h.val i hi
  have h3 := h.hash i hi
  have hi' : (i : Int) < 8 := by omega
  cases hf : is 3 g i
  · rw [hf] at c
    obtain ⟨z1, z2, z3⟩ := (hg i).zero (of_decide_eq_false hf)
    rw [z1, z2, z3]
    go_enter Tryd.func64, Tryd.ntmps64
    go_wp2_with (go_at_call 63; refine (c _ (two_new w _ _)).mono ?_; rintro e w' ⟨rfl, rfl⟩)
    exact bodyPost_ret (v := .tuple #[entV 0 0 0, .bool false]) (by simp [results, Tryd.results64, go_sem]) rfl ⟨rfl, two_new w _ _⟩
  · rw [hf] at c
    go_enter Tryd.func64, Tryd.ntmps64
    go_wp2_with (go_at_call 63; refine (c _ (two_new w _ _)).mono ?_; rintro e w' ⟨rfl, rfl⟩)
    exact bodyPost_ret (v := .tuple #[entV (g i).key (g i).val (g i).hash, .bool true]) (by simp [results, Tryd.results64, go_sem]) rfl ⟨rfl, two_new w _ _⟩
theorem free_any (B o : Nat) (g : Gp) (hg : g.Ok) (w : World) (h : GAt B o g w) (hT : TabOk w) :
    Calls Tryd.prog 40 #[.agg #[.pointer (some ⟨B, o, none⟩)]] w fun e w' => e = .returned (.int .i64 (least g)) ∧ Below w.heap.size w w' := by
  have hw := h.word
  have hlt := h.lt
  have c1 := ctrl.frees_any (group.word g) (word_lt g)
  have c2 := first_any (mkM fun k => !is 3 g k) (mkM_lt _) (boxed B o w) (hT.below (box_below B o w) hT.lt)
  rw [m_frees hg] at c1
  rw [first_mk] at c2
  go_enter Tryd.func40, Tryd.ntmps40
  go_wp2_with (first
    | (go_at_call 57; refine (c1 _).mono ?_; rintro e w' ⟨rfl, rfl⟩)
    | (go_at_call 56; refine c2.mono ?_; rintro e w' ⟨rfl, rfl⟩))
  go_ret
  exact ⟨rfl, box_below B o w⟩
theorem open_any (B o : Nat) (g : Gp) (hg : g.Ok) (w : World) (h : GAt B o g w) :
    Calls Tryd.prog 41 #[.agg #[.pointer (some ⟨B, o, none⟩)]] w fun e w' => e = .returned (.bool (opens g)) ∧ Below w.heap.size w w' := by
  have hw := h.word
  have hlt := h.lt
  have c1 := ctrl.empties_any (group.word g) (word_lt g)
  rw [m_empties hg] at c1
  have e : (((mkM (is 1 g) : Nat) : Int) != 0) = opens g := by
    have h := mk_zero (is 1 g)
    unfold opens
    generalize (is 1 g 0 || is 1 g 1 || is 1 g 2 || is 1 g 3 || is 1 g 4 || is 1 g 5 || is 1 g 6 || is 1 g 7) = b at h ⊢
    cases b
    · rw [h.2 rfl]; rfl
    · rw [bne_iff_ne]; intro h0
      exact absurd (h.1 (by omega)) (by decide)
  go_enter Tryd.func41, Tryd.ntmps41
  go_wp2_with (go_at_call 58; refine (c1 _).mono ?_; rintro e w' ⟨rfl, rfl⟩)
  go_ret
  exact ⟨rfl, box_below B o w⟩
theorem text_any (B o : Nat) (g : Gp) (w : World) (h : GAt B o g w) :
    Calls Tryd.prog 31 #[.agg #[.pointer (some ⟨B, o, none⟩)]] w fun e w' => e = .returned (.string (ctrl.textN (group.word g))) ∧ Below w.heap.size w w' := by
  have hw := h.word
  have hlt := h.lt
  have c1 := ctrl.text_any (group.word g) (word_lt g)
  go_enter Tryd.func31, Tryd.ntmps31
  go_wp2_with (go_at_call 50; refine (c1 _).mono ?_; rintro e w' ⟨rfl, hb⟩)
  go_ret
  exact ⟨rfl, box_step hb⟩
end Go.Proofs.YtplhgcidegngiaaDoor.group
