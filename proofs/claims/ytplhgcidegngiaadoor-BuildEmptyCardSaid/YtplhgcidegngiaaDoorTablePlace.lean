/- table: Place; what is free. -/
import Derived.Test.YtplhgcidegngiaaDoorTableSpot
namespace Go.Proofs.YtplhgcidegngiaaDoor.table
open Go.ChangeShapes Go.WideShapes Go.ChangeAt Go.RowKit swar under trap meter group probe lens tail call
attribute [local go_sem] Oper.semAt_some stage.pureUpon move.stepUpon
set_option linter.unusedSimpArgs false
set_option linter.unusedVariables false
set_option maxRecDepth 20000 in
theorem free_none (T B : Nat) (t : Tb) (ht : t.Ok) (key h a b : Nat) (hl : t.left < 1) (w : World) (hT : TAt T B t w) :
    Calls Tryd.prog 46 #[spotV T B key h a b] w fun e w' => e = .returned (.int .i64 (-1)) ∧ Below w.heap.size w w' := by
  have c1 := nowhere_any T B key h a b
  have c2 := fun W (hb : Below w.heap.size w W) => left_any T B t ht W (hT.below hb)
  have d1 : decide (t.left < 1) = true := decide_eq_true hl
  have hS := SBox.new T B key h a b w
  go_enter Tryd.func46, Tryd.ntmps46
  go_wp2_with (first
    | (go_at_call 62; refine (c1 _).mono ?_; rintro e w1 ⟨rfl, hb1⟩; have hB1 := under.below_step (new_block w _) hb1; have y0 := (hS.keep hb1).c0)
    | (go_at_call 65; refine (c2 _ hB1).mono ?_; rintro e w2 ⟨rfl, q, rfl⟩))
  go_ret
  exact ⟨rfl, under.below_step hB1 (below_drewN' _ q)⟩
set_option maxRecDepth 20000 in
theorem free_some (T B : Nat) (t : Tb) (ht : t.Ok) (key h a b : Nat) (hb' : b < t.n) (hl : ¬ t.left < 1) (w : World) (hT : TAt T B t w) (hX : TabOk w) :
    Calls Tryd.prog 46 #[spotV T B key h a b] w fun e w' => e = .returned (.int .i64 (least (t.gs b))) ∧ Below w.heap.size w w' := by
  have c1 := nowhere_any T B key h a b
  have c2 := fun W (hb : Below w.heap.size w W) => left_any T B t ht W (hT.below hb)
  have c3 := fun W (hb : Below w.heap.size w W) => free_any B (b * 25) (t.gs b) (ht.gs b) W ((hT.below hb).gs b hb') (hX.below hb hX.lt)
  have d1 : decide (t.left < 1) = false := decide_eq_false hl
  have hS := SBox.new T B key h a b w
  go_enter Tryd.func46, Tryd.ntmps46
  go_wp2_with (first
    | (go_at_call 62; refine (c1 _).mono ?_; rintro e w1 ⟨rfl, hb1⟩; have hB1 := under.below_step (new_block w _) hb1; have y0 := (hS.keep hb1).c0)
    | (go_at_call 65; refine (c2 _ hB1).mono ?_; rintro e w2 ⟨rfl, q, rfl⟩; have hB2 := under.below_step hB1 (below_drewN' w1 q); have y4 := ((hS.keep hb1).keep (below_drewN' w1 q)).c4)
    | (go_at_call 40; refine (c3 _ hB2).mono ?_; rintro e w3 ⟨rfl, hb3⟩))
  go_ret
  exact ⟨rfl, under.below_step hB2 hb3⟩
set_option maxRecDepth 20000 in
theorem place_dup (ae : String → Addr) (T B : Nat) (t : Tb) (ht : t.Ok) (key h a b k : Nat) (ha : a < t.n) (hk : k < 8) (h3 : (t.gs a k).kind = 3) (hh : h < 18446744073709551616) (hf : find key h (t.gs a) = (k : Nat)) (w : World) (hT : TAt T B t w) (hX : TabOk w) (hE : Errs6 ae w) (k2 v2 h2 : Nat) :
    Calls Tryd.prog 28 #[spotV T B key h a b, group.entV k2 v2 h2] w fun e w' => e = .returned (errs.errV (ae "ambler/api.ErrDup")) ∧ Below w.heap.size w w' := by
  have c1 := fun W (hb : Below w.heap.size w W) => entry_yes ae T B t ht key h a b k ha hk h3 hh hf W (hT.below hb) (hX.below hb hX.lt) (hE.below hb).two
  generalize t.gs a k = sl at *
  go_enter Tryd.func28, Tryd.ntmps28
  go_wp2_with (go_at_call 45; refine (c1 _ (two_new w _ _)).mono ?_; rintro e w1 ⟨rfl, hb1⟩; have hB1 := under.below_step (under.below_step (two_new w _ _) hb1) (new_block w1 (.cells #[.int .u64 (sl.key : Nat), .int .u64 (sl.val : Nat), .int .u64 (sl.hash : Nat)] 47)); have y0 := (hE.below hB1).dup)
  go_ret
  exact ⟨rfl, hB1⟩
/-- the boxes of a spot and of an entry, behind a call and a third box -/
theorem boxes3 (T B key h a b k2 v2 h2 : Nat) {w w1 : World} (hb1 : Below ((boxS T B key h a b w).alloc (.cells #[.int .u64 (k2 : Nat), .int .u64 (v2 : Nat), .int .u64 (h2 : Nat)] 47)).heap.size ((boxS T B key h a b w).alloc (.cells #[.int .u64 (k2 : Nat), .int .u64 (v2 : Nat), .int .u64 (h2 : Nat)] 47)) w1) (o : Obj) :
    Below w.heap.size w (w1.alloc o) ∧ SBox w.heap.size T B key h a b (w1.alloc o) ∧ EBox (w.heap.size + 1) k2 v2 h2 (w1.alloc o) := by
  have hB := two_new w (.cells #[.pointer (some ⟨T, 0, none⟩), .int .u64 (key : Nat), .int .u64 (h : Nat), .pointer (some ⟨B, a * 25, none⟩), .pointer (some ⟨B, b * 25, none⟩)] 68) (.cells #[.int .u64 (k2 : Nat), .int .u64 (v2 : Nat), .int .u64 (h2 : Nat)] 47)
  have h1 := under.below_step hb1 (new_block w1 o)
  exact ⟨under.below_step hB h1, ((SBox.new T B key h a b w).keep (new_block _ _)).keep h1, (EBox.second k2 v2 h2 w _).keep h1⟩
set_option maxRecDepth 20000 in
theorem place_kind (ae : String → Addr) (T B : Nat) (t : Tb) (ht : t.Ok) (key h a b : Nat) (ha : a < t.n) (hb' : b < t.n) (hh : h < 18446744073709551616) (hf : find key h (t.gs a) = -1) (hf2 : find key h (t.gs b) = -1) (w : World) (hT : TAt T B t w) (hX : TabOk w) (hE : Errs6 ae w) (k2 v2 h2 : Nat) (hne : k2 ≠ key ∨ h2 ≠ h) :
    Calls Tryd.prog 28 #[spotV T B key h a b, group.entV k2 v2 h2] w fun e w' => e = .returned (errs.errV (ae "ambler/api.ErrKind")) ∧ Below w.heap.size w w' := by
  have c1 := fun W (hb : Below w.heap.size w W) => entry_no T B t ht key h a b ha hb' hh hf hf2 W (hT.below hb) (hX.below hb hX.lt)
  rcases Decidable.em (k2 = key) with hk2 | hk2
  · subst hk2
    have d2 : (((h2 : Nat) : Int) != ((h : Nat) : Int)) = true := by
      rcases hne with h' | h'
      · exact absurd rfl h'
      · simp; omega
    clear hne
    go_enter Tryd.func28, Tryd.ntmps28
    go_wp2_with (go_at_call 45; refine (c1 _ (two_new w _ _)).mono ?_; rintro e w1 ⟨rfl, hb1⟩; obtain ⟨hB1, hS, hV⟩ := boxes3 T B k2 h a b k2 v2 h2 hb1 (.cells #[.int .u64 0, .int .u64 0, .int .u64 0] 47); have y0 := hV.c0; have y1 := hS.c1; have y2 := hV.c2; have y3 := hS.c2; have y4 := (hE.below hB1).kind)
    go_ret
    exact ⟨rfl, hB1⟩
  · have d1 : (((k2 : Nat) : Int) != ((key : Nat) : Int)) = true := by simp; omega
    clear hne hk2
    go_enter Tryd.func28, Tryd.ntmps28
    go_wp2_with (go_at_call 45; refine (c1 _ (two_new w _ _)).mono ?_; rintro e w1 ⟨rfl, hb1⟩; obtain ⟨hB1, hS, hV⟩ := boxes3 T B key h a b k2 v2 h2 hb1 (.cells #[.int .u64 0, .int .u64 0, .int .u64 0] 47); have y0 := hV.c0; have y1 := hS.c1; have y2 := hV.c2; have y3 := hS.c2; have y4 := (hE.below hB1).kind)
    go_ret
    exact ⟨rfl, hB1⟩
set_option maxRecDepth 20000 in
theorem place_full (ae : String → Addr) (T B : Nat) (t : Tb) (ht : t.Ok) (key h a b v : Nat) (ha : a < t.n) (hb' : b < t.n) (hh : h < 18446744073709551616) (hf : find key h (t.gs a) = -1) (hf2 : find key h (t.gs b) = -1) (hl : t.left < 1 ∨ least (t.gs b) < 0) (w : World) (hT : TAt T B t w) (hX : TabOk w) (hE : Errs6 ae w) :
    Calls Tryd.prog 28 #[spotV T B key h a b, group.entV key v h] w fun e w' => e = .returned (errs.errV (ae "ambler/api.ErrFull")) ∧ Below w.heap.size w w' := by
  have c1 := fun W (hb : Below w.heap.size w W) => entry_no T B t ht key h a b ha hb' hh hf hf2 W (hT.below hb) (hX.below hb hX.lt)
  have c2 : ∀ W, Below w.heap.size w W → Calls Tryd.prog 46 #[spotV T B key h a b] W fun e w' => e = .returned (.int .i64 (-1)) ∧ Below W.heap.size W w' := fun W hb => by
    by_cases h1 : t.left < 1
    · exact free_none T B t ht key h a b h1 W (hT.below hb)
    · have h2 : least (t.gs b) = -1 := by
        rcases hl with h' | h'
        · exact absurd h' h1
        · rcases least_cases (t.gs b) with ⟨e, _⟩ | ⟨k, _, e, _⟩
          · exact e
          · omega
      have := free_some T B t ht key h a b hb' h1 W (hT.below hb) (hX.below hb hX.lt)
      rwa [h2] at this
  go_enter Tryd.func28, Tryd.ntmps28
  go_wp2_with (first
    | (go_at_call 45; refine (c1 _ (two_new w _ _)).mono ?_; rintro e w1 ⟨rfl, hb1⟩; obtain ⟨hB1, hS, hV⟩ := boxes3 T B key h a b key v h hb1 (.cells #[.int .u64 0, .int .u64 0, .int .u64 0] 47); have y0 := hV.c0; have y1 := hS.c1; have y2 := hV.c2; have y3 := hS.c2; have z0 := hS.c0; have z3 := hS.c3; have z4 := hS.c4)
    | (go_at_call 46; refine (c2 _ hB1).mono ?_; rintro e w2 ⟨rfl, hb2⟩; have hB2 := under.below_step hB1 hb2; have y5 := (hE.below hB2).full))
  go_ret
  exact ⟨rfl, hB2⟩
set_option maxRecDepth 20000 in
theorem place_ok (ae : String → Addr) (T B : Nat) (t : Tb) (ht : t.Ok) (key h a b v k : Nat) (ha : a < t.n) (hb' : b < t.n) (hh : h < 18446744073709551616) (hf : find key h (t.gs a) = -1) (hf2 : find key h (t.gs b) = -1) (hl : ¬ t.left < 1) (hk : k < 8) (hlk : least (t.gs b) = (k : Nat)) (h3 : (t.gs b k).kind ≠ 3) (w : World) (hT : TAt T B t w) (hX : TabOk w) (hE : Errs6 ae w) :
    Calls Tryd.prog 28 #[spotV T B key h a b, group.entV key v h] w fun e w' => e = .returned .nilIface ∧ TStep T B (t.put b k ⟨3, key, v, h⟩) w w' := by
  have c1 := fun W (hb : Below w.heap.size w W) => entry_no T B t ht key h a b ha hb' hh hf hf2 W (hT.below hb) (hX.below hb hX.lt)
  have c2 := fun W (hb : Below w.heap.size w W) => free_some T B t ht key h a b hb' hl W (hT.below hb) (hX.below hb hX.lt)
  rw [hlk] at c2
  have c3 := fun W (hb : Below w.heap.size w W) => place_any ae T B t ht b k key v h hb' hk h3 hh W (hT.below hb) (hE.below hb).two
  have d1 : decide (((k : Nat) : Int) < 0) = false := decide_eq_false (by omega)
  generalize t.put b k ⟨3, key, v, h⟩ = t' at *
  go_enter Tryd.func28, Tryd.ntmps28
  go_wp2_with (first
    | (go_at_call 45; refine (c1 _ (two_new w _ _)).mono ?_; rintro e w1 ⟨rfl, hb1⟩; obtain ⟨hB1, hS, hV⟩ := boxes3 T B key h a b key v h hb1 (.cells #[.int .u64 0, .int .u64 0, .int .u64 0] 47); have y0 := hV.c0; have y1 := hS.c1; have y2 := hV.c2; have y3 := hS.c2; have z0 := hS.c0; have z3 := hS.c3; have z4 := hS.c4)
    | (go_at_call 46; refine (c2 _ hB1).mono ?_; rintro e w2 ⟨rfl, hb2⟩; have hB2 := under.below_step hB1 hb2; have u0 := (hS.keep hb2).c0; have u4 := (hS.keep hb2).c4; have v0 := (hV.keep hb2).c0; have v1 := (hV.keep hb2).c1; have v2 := (hV.keep hb2).c2)
    | (go_at_call 47; refine (c3 _ hB2).mono ?_; rintro e w3 ⟨rfl, hs⟩))
  go_ret
  exact ⟨rfl, (TStep.of hT hB2).trans hs⟩
end Go.Proofs.YtplhgcidegngiaaDoor.table
