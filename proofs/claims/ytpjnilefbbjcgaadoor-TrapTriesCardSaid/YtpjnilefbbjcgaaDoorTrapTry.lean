/- trap: Try; TrapTries. -/
import Derived.Test.YtpjnilefbbjcgaaDoorTrapNests
import Derived.Deep.RegionWith
namespace Go.Proofs.YtpjnilefbbjcgaaDoor.trap
open Go.RowKit errs under
set_option linter.unusedSimpArgs false
set_option linter.unusedVariables false

/-- a function that answers a number, and came to the number b of the document: x is what Try then answers -/
def Gives (a : String → Addr) (b : Nat) (x : Int) (e : Ending) : Prop :=
  (b = 0 ∧ e = .returned (.tuple #[.int .i64 x, .nilIface])) ∨ (∃ k, k < 16 ∧ b = k + 1 ∧ x = 0 ∧ ∃ y, e = .returned (.tuple #[.int .i64 y, errV (a (nm k))])) ∨
    (∃ k, k < 16 ∧ b = k + 1 ∧ x = 0 ∧ e = .panicked (thrown (raisedV (a (nm k))))) ∨ (b = 10 ∧ x = 0 ∧ ∃ T v, T ≠ 41 ∧ e = .panicked (thrown (.iface T v)))
theorem Gives.back {a : String → Addr} (x : Int) : Gives a 0 x (.returned (.tuple #[.int .i64 x, .nilIface])) := .inl ⟨rfl, rfl⟩
theorem Gives.told {a : String → Addr} (k : Nat) (h : k < 16) (y : Int) : Gives a (k + 1) 0 (.returned (.tuple #[.int .i64 y, errV (a (nm k))])) := .inr (.inl ⟨k, h, rfl, rfl, y, rfl⟩)
theorem Gives.raised {a : String → Addr} (k : Nat) (h : k < 16) : Gives a (k + 1) 0 (.panicked (thrown (raisedV (a (nm k))))) := .inr (.inr (.inl ⟨k, h, rfl, rfl, rfl⟩))
theorem Gives.other {a : String → Addr} (T : TypeId) (v : Value) (h : T ≠ 41) : Gives a 10 0 (.panicked (thrown (.iface T v))) := .inr (.inr (.inr ⟨rfl, rfl, T, v, h, rfl⟩))
theorem try_1 (a : String → Addr) (N : Nat) (x : Int) (g : Nat) (cap : Array Value) (hc : ∀ w, (callFunc g cap).run Tryd.prog w = .ok (.enter g cap) w) (bf bv : Nat) (w : World) (vf : Var bf (.func (.func g) #[] cap) w) (vv : Var bv (.int .i64 0) w)
    (hg : Calls Tryd.prog g cap w fun e w' => Gives a N x e ∧ Below w.heap.size w w') :
    Calls Tryd.prog 29 #[.pointer (some ⟨bf, 0, none⟩), .pointer (some ⟨bv, 0, none⟩)] w fun e w' => Ends a N e ∧ Past [bv] w w' ∧ Var bv (.int .i64 x) w' := by
  have c1 := vf.cell
  go_enter Tryd.func29, Tryd.ntmps29
  go_wp2_with (fail)
  refine hg.mono ?_
  rintro e w1 ⟨he, hb1⟩
  have u := vv.below hb1
  have cv := u.cell
  have fv := u.frozen
  have hp : Past [bv] w w1 := Past.of hb1
  have hp2 := hp.store (p := ⟨bv, 0, none⟩) (.inl (by simp)) (.int .i64 x)
  have ux := u.set (.int .i64 x)
  rcases he with ⟨rfl, rfl⟩ | ⟨k, hk, rfl, rfl, y, rfl⟩ | ⟨k, hk, rfl, rfl, rfl⟩ | ⟨rfl, rfl, T, v, hT, rfl⟩
  · skip
    go_wp2_with (go_at_call 17; refine (must_nil _ _).mono ?_; rintro e w' ⟨rfl, rfl⟩)
    go_end0
    exact ⟨.back, hp2, ux⟩
  · skip
    go_wp2_with (go_at_call 17; refine (must_err _ _ _).mono ?_; rintro e w' ⟨rfl, rfl⟩)
    exact ⟨rfl, .raised k hk, hp, u⟩
  · skip
    go_wp2
    exact ⟨rfl, .raised k hk, hp, u⟩
  · skip
    go_wp2
    exact ⟨rfl, .other T v hT, hp, u⟩
theorem try_nil (a : String → Addr) (w : World) (h : ErrsOk names a w) :
    Calls Tryd.prog 13 #[.nilFunc] w fun e w' => e = .returned (.tuple #[.int .i64 0, errV (a "ambler/api.ErrEmpty")]) ∧ Below w.heap.size w w' := by
  have hn : ∀ w : World, (binOp BinOp.eql 35 .nilFunc .nilFunc).run Tryd.prog w = .ok (.bool true) w := fun w => by kernel_rfl
  have hb1 : Below w.heap.size w ((w.alloc (.cells #[.nilFunc] 35)).alloc (.cells #[.int .i64 0] 3)) := ((Below.refl _ w).alloc (Nat.le_refl _) _).alloc (by simp) _
  have c := (h.below hb1).at gErrEmpty (nm_mem (i := 11) (by decide))
  have v := Var.new (w.alloc (.cells #[.nilFunc] 35)) (.int .i64 0) 3
  rw [World.size_alloc] at v
  go_enter Tryd.func13, Tryd.ntmps13
  go_wp2
  generalize (w.alloc (.cells #[.nilFunc] 35)).alloc (.cells #[.int .i64 0] 3) = w1 at hb1 c v ⊢
  have n1 := Under.cell c
  have n2 := Under.cell v.cell
  refine wp_region_under (by kernel_rfl) (by kernel_rfl) ?_
  repeat (quiet_step (fail))
  refine wpQuiet_nil ?_
  intro w5 hw5
  obtain ⟨m, rfl⟩ := hw5
  go_wp2
  go_ret2
  exact ⟨rfl, below_step hb1 m.below⟩
theorem fn29 (cap : Array Value) (w : World) : (callFunc 29 cap).run Tryd.prog w = .ok (.enter 29 cap) w := by kernel_rfl
set_option maxHeartbeats 1600000 in
theorem try_any (a : String → Addr) (N : Nat) (x : Int) (g : Nat) (cap : Array Value) (hc : ∀ w, (callFunc g cap).run Tryd.prog w = .ok (.enter g cap) w) (w : World) (h : ErrsOk names a w)
    (hg : ∀ wx, Below w.heap.size w wx → Calls Tryd.prog g cap wx fun e w' => Gives a N x e ∧ Below wx.heap.size wx w') :
    Calls Tryd.prog 13 #[.func (.func g) #[] cap] w fun e w' => e = .returned (.tuple #[.int .i64 x, errAt a N]) ∧ Below w.heap.size w w' := by
  have hmf := mf
  have hn : ∀ w : World, (binOp BinOp.eql 35 (.func (.func g) #[] cap) .nilFunc).run Tryd.prog w = .ok (.bool false) w := fun w => by kernel_rfl
  have hb1 : Below w.heap.size w ((w.alloc (.cells #[.func (.func g) #[] cap] 35)).alloc (.cells #[.int .i64 0] 3)) := ((Below.refl _ w).alloc (Nat.le_refl _) _).alloc (by simp) _
  have v := Var.new (w.alloc (.cells #[.func (.func g) #[] cap] 35)) (.int .i64 0) 3
  rw [World.size_alloc] at v
  have f := (Var.new w (.func (.func g) #[] cap) 35).alloc (.cells #[.int .i64 0] 3)
  have V := Lib.hid v
  have F := Lib.hid f
  clear v f
  go_enter Tryd.func13, Tryd.ntmps13
  go_wp2_with (fail)
  have v := V.out
  have f := F.out
  clear V F
  have h1 := h.below hb1
  generalize (w.alloc (.cells #[.func (.func g) #[] cap] 35)).alloc (.cells #[.int .i64 0] 3) = w1 at hb1 h1 v f ⊢
  have hb2 : Below w1.heap.size w1 ((w1.alloc (.cells #[.nilIface] 25)).alloc (.cells #[.bool false] 4)) := ((Below.refl _ w1).alloc (Nat.le_refl _) _).alloc (by simp) _
  have hp0 : Past [w.heap.size + 1] w1 ((w1.alloc (.cells #[.nilIface] 25)).alloc (.cells #[.bool false] 4)) := Past.of hb2
  have hl := v.lt
  have hb0 := hb1.size
  have hP : ∀ wx, Past [w.heap.size + 1] w1 wx → Below w.heap.size w wx := fun wx hx => hb1.trans (hx.below (by omega) (by simp))
  have cc := catch_any a N _ _ (fn29 #[.pointer (some ⟨w.heap.size, 0, none⟩), .pointer (some ⟨w.heap.size + 1, 0, none⟩)]) [w.heap.size + 1] (Var (w.heap.size + 1) (.int .i64 x)) w1 (by simpa using hl) (fun wx hx => h.below (hP wx hx)) (fun w2 w3 h he => h.of_block (he _ hl))
    (try_1 a N x g cap hc _ _ _ (f.below hb2) (v.below hb2) (hg _ (below_step hb1 hb2)))
  refine cc.mono ?_
  rintro e w2 ⟨rfl, hp2, v2⟩
  have hb := hP w2 hp2
  have c2 := v2.cell
  clear cc hP v f h1 hb1 hp0 hb2 hl hb0 hp2 hg hn
  go_wp2
  go_ret2
  exact ⟨rfl, hb⟩
/-! ### the functions that TrapTries makes -/
def bothN (N M : Nat) : Nat := if N = 0 then M else N
def valN (b : Nat) (v : Int) : Int := if b = 0 then v else 0
theorem err_any (a : String → Addr) (n : Int) (w : World) (h : ErrsOk names a w) : Calls Tryd.prog 15 #[.int .i64 n] w fun e w' => e = .returned (errAt a (actN 1 n)) ∧ Below w.heap.size w w' := by
  by_cases hn : n < 1 ∨ 16 < n
  · have e : actN 1 n = 0 := by simp [actN, hn]
    rw [e]
    exact (err_none n hn w).mono fun e w' ⟨he, hw⟩ => ⟨he, by subst hw; exact Below.refl _ _⟩
  · obtain ⟨j, hj, rfl⟩ : ∃ j : Nat, j < 16 ∧ n = ((j + 1 : Nat) : Int) := ⟨(n - 1).toNat, by omega, by omega⟩
    have e : actN 1 ((j + 1 : Nat) : Int) = j + 1 := by unfold actN; rw [if_neg (by decide), if_pos rfl, if_neg hn]; omega
    rw [e]
    exact err_at a j hj w h
theorem gives_pair (a : String → Addr) (M : Nat) (hM : M ≤ 16) (v : Int) : Gives a M (valN M v) (.returned (.tuple #[.int .i64 v, errAt a M])) := by
  cases M with
  | zero => exact .back v
  | succ k => exact .told k (by omega) v
theorem gives_raised (a : String → Addr) (j : Nat) (hj : j < 16) (M : Nat) (v : Int) : Gives a (bothN (j + 1) M) (valN (bothN (j + 1) M) v) (.panicked (thrown (raisedV (a (nm j))))) := .raised j hj
theorem gives_other (a : String → Addr) (T : TypeId) (u : Value) (hT : T ≠ 41) (M : Nat) (v : Int) : Gives a (bothN 10 M) (valN (bothN 10 M) v) (.panicked (thrown (.iface T u))) := .other T u hT
set_option maxHeartbeats 1600000 in
theorem tries_1 (a : String → Addr) (bk bn bv k : Nat) (hk : k < 11) (n v : Int) (w : World) (h : ErrsOk names a w) (h1 : Var bk (.int .i64 (k : Nat)) w) (h2 : Var bn (.int .i64 n) w) (h3 : Var bv (.int .i64 v) w) :
    Calls Tryd.prog 14 #[.pointer (some ⟨bk, 0, none⟩), .pointer (some ⟨bn, 0, none⟩), .pointer (some ⟨bv, 0, none⟩)] w fun e w' => Gives a (bothN (actN k n) (actN 1 n)) (valN (bothN (actN k n) (actN 1 n)) v) e ∧ Below w.heap.size w w' := by
  have c1 := h1.cell
  have c2 := h2.cell
  have hA := act_any a k hk n w.heap.size (w.alloc (.cells #[.int .i64 1] 3)) (act_in w) (h.below ((Below.refl _ w).alloc (Nat.le_refl _) _))
  have HE := Lib.hid (fun w => err_any a n w)
  have HM := Lib.hid (actN_le 1 n)
  generalize actN k n = N at hA ⊢
  generalize actN 1 n = M at HE HM ⊢
  go_enter Tryd.func14, Tryd.ntmps14
  go_wp2_with (go_at_call 10; refine hA.mono ?_; rintro e w1 ⟨he, hb⟩; have hb1 := below_new hb; have d2 := (h2.below hb1).cell; have d3 := (h3.below hb1).cell; have hE1 := h.below hb1; rcases he with ⟨rfl, rfl⟩ | ⟨j, hj, rfl, rfl⟩ | ⟨rfl, T, u, hT, rfl⟩)
  · clear c1 c2 hA hb
    have n2 := Under.cell d2
    have n3 := Under.cell d3
    have cE : ∀ m : Under w1, Calls Tryd.prog 15 #[.int .i64 n] m.W fun e w' => e = .returned (errAt a M) ∧ Below m.W.heap.size m.W w' := fun m => HE.out _ (hE1.below m.below)
    refine wp_region_under (by kernel_rfl) (by kernel_rfl) ?_
    repeat (quiet_step ((go_at_call 15; (with_reducible refine under_call (cE _)))))
    refine wpQuiet_nil ?_
    intro w5 hw5
    obtain ⟨m, rfl⟩ := hw5
    go_wp2
    go_ret2
    refine ⟨?_, below_step hb1 m.below⟩
    have e : bothN 0 M = M := rfl
    rw [e]
    exact gives_pair a M HM.out v
  · exact ⟨rfl, gives_raised a _ (by assumption) M v, hb1⟩
  · exact ⟨rfl, gives_other a _ _ (by assumption) M v, hb1⟩
set_option maxHeartbeats 1600000 in
theorem tries_2 (a : String → Addr) (bv bn : Nat) (n v : Int) (w : World) (h : ErrsOk names a w) (h2 : Var bn (.int .i64 n) w) (h3 : Var bv (.int .i64 v) w) :
    Calls Tryd.prog 16 #[.pointer (some ⟨bv, 0, none⟩), .pointer (some ⟨bn, 0, none⟩)] w fun e w' => Gives a (actN 1 n) (valN (actN 1 n) v) e ∧ Below w.heap.size w w' := by
  have c2 := h2.cell
  have c3 := h3.cell
  have hE := err_any a n
  have hM := actN_le 1 n
  generalize actN 1 n = M at hE hM ⊢
  cases M with
  | zero =>
    have n2 := Under.cell c2
    have n3 := Under.cell c3
    have cE : ∀ m : Under w, Calls Tryd.prog 15 #[.int .i64 n] m.W fun e w' => e = .returned .nilIface ∧ Below m.W.heap.size m.W w' := fun m => hE _ (h.below m.below)
    have cM : ∀ m : Under w, Calls Tryd.prog 17 #[.int .i64 v, .nilIface] m.W fun e w' => e = .returned (.int .i64 v) ∧ m.W = w' := fun m => must_nil v m.W
    clear c2 c3 hE hM
    go_enter Tryd.func16, Tryd.ntmps16
    go_wp2
    refine wp_region_under (by kernel_rfl) (by kernel_rfl) ?_
    repeat (quiet_step ((first
      | (go_at_call 15; (with_reducible refine under_call (cE _)))
      | (go_at_call 17; (with_reducible refine under_same (cM _))))))
    refine wpQuiet_nil ?_
    intro w5 hw5
    obtain ⟨m, rfl⟩ := hw5
    go_wp2
    go_ret2
    exact ⟨.back v, m.below⟩
  | succ j =>
    have HE := Lib.hid hE
    have HJ := Lib.hid (show j < 16 by omega)
    clear hE hM
    go_enter Tryd.func16, Tryd.ntmps16
    go_wp2
    have cE := HE.out w.drew (h.below (drew_below w))
    have hv : ∀ {w1 : World}, Below w.drew.heap.size w.drew w1 → w1.cell? ⟨bv, 0, none⟩ = some (.int .i64 v) := fun hb => ((h3.below (drew_below w)).below hb).cell
    refine wp_region_any (by kernel_rfl) ?_
    change wpAny _ _ _ _ _ _ _ (World.drew _)
    refine wpAny_ready (rs := [0, 1]) (by kernel_rfl) (by simp) ?_
    refine AllReady.cons rfl (fun K hK => ?_) (AllReady.cons rfl (fun K hK => ?_) AllReady.nil)
    · go_simp; refine hK _ _ ?_; clear hK K
      refine wpAny_ready (rs := [1]) (by kernel_rfl) (by simp) ?_; refine AllReady.cons rfl (fun K hK => ?_) AllReady.nil
      go_simp; refine hK _ _ ?_; clear hK K
      refine wpAny_ready (rs := [2]) (by kernel_rfl) (by simp) ?_; refine AllReady.cons rfl (fun K hK => ?_) AllReady.nil
      go_simp; go_wp2_with (go_at_call 15; refine cE.mono ?_; rintro e w1 ⟨rfl, hb⟩; have d3 := hv hb)
      refine wpAny_ready (rs := [3]) (by kernel_rfl) (by simp) ?_; refine AllReady.cons rfl (fun K hK => ?_) AllReady.nil
      go_simp; go_wp2_with (go_at_call 17; refine (must_err _ _ _).mono ?_; rintro e w' ⟨rfl, rfl⟩; exact ⟨rfl, .raised j HJ.out, below_step (drew_below w) hb⟩)
    · go_simp; refine hK _ _ ?_; clear hK K
      refine wpAny_ready (rs := [0, 2]) (by kernel_rfl) (by simp) ?_
      refine AllReady.cons rfl (fun K hK => ?_) (AllReady.cons rfl (fun K hK => ?_) AllReady.nil)
      · go_simp; refine hK _ _ ?_; clear hK K
        refine wpAny_ready (rs := [2]) (by kernel_rfl) (by simp) ?_; refine AllReady.cons rfl (fun K hK => ?_) AllReady.nil
        go_simp; go_wp2_with (go_at_call 15; refine cE.mono ?_; rintro e w1 ⟨rfl, hb⟩; have d3 := hv hb)
        refine wpAny_ready (rs := [3]) (by kernel_rfl) (by simp) ?_; refine AllReady.cons rfl (fun K hK => ?_) AllReady.nil
        go_simp; go_wp2_with (go_at_call 17; refine (must_err _ _ _).mono ?_; rintro e w' ⟨rfl, rfl⟩; exact ⟨rfl, .raised j HJ.out, below_step (drew_below w) hb⟩)
      · go_simp; go_wp2_with (go_at_call 15; refine cE.mono ?_; rintro e w1 ⟨rfl, hb⟩; have d3 := hv hb)
        refine wpAny_ready (rs := [0]) (by kernel_rfl) (by simp) ?_; refine AllReady.cons rfl (fun K hK => ?_) AllReady.nil
        go_simp; refine hK _ _ ?_; clear hK K
        refine wpAny_ready (rs := [3]) (by kernel_rfl) (by simp) ?_; refine AllReady.cons rfl (fun K hK => ?_) AllReady.nil
        go_simp; go_wp2_with (go_at_call 17; refine (must_err _ _ _).mono ?_; rintro e w' ⟨rfl, rfl⟩; exact ⟨rfl, .raised j HJ.out, below_step (drew_below w) hb⟩)
end Go.Proofs.YtpjnilefbbjcgaaDoor.trap
