/- trap: alive; TrapCatches. -/
import Derived.Test.YtpjnilefbbjcgaaDoorTrapFns
namespace Go.Proofs.YtpjnilefbbjcgaaDoor.trap
open Go.RowKit errs under
set_option linter.unusedSimpArgs false
set_option linter.unusedVariables false

theorem catch_plain (a : String → Addr) (n : Nat) (g : Nat) (cap : Array Value) (hc : ∀ w, (callFunc g cap).run Tryd.prog w = .ok (.enter g cap) w) (w : World) (h : ErrsOk names a w)
    (hg : ∀ wx, Below w.heap.size w wx → Calls Tryd.prog g cap wx fun e w' => Ends a n e ∧ Below wx.heap.size wx w') :
    Calls Tryd.prog 8 #[.func (.func g) #[] cap] w fun e w' => e = .returned (errAt a n) ∧ Below w.heap.size w w' :=
  (catch_any a n g cap hc [] (fun _ => True) w (by simp) (fun wx hp => h.below hp.nil) (fun _ _ _ _ => trivial)
    ((hg _ (((Below.refl _ w).alloc (Nat.le_refl _) _).alloc (by simp) _)).mono fun e w' ⟨he, hb⟩ => ⟨he, Past.of hb, trivial⟩)).mono fun e w' ⟨he, hp, _⟩ => ⟨he, hp.nil⟩
theorem fn22 (w : World) : (callFunc 22 #[]).run Tryd.prog w = .ok (.enter 22 #[]) w := by kernel_rfl
theorem fn24 (cap : Array Value) (w : World) : (callFunc 24 cap).run Tryd.prog w = .ok (.enter 24 cap) w := by kernel_rfl
theorem fn9 (cap : Array Value) (w : World) : (callFunc 9 cap).run Tryd.prog w = .ok (.enter 9 cap) w := by kernel_rfl
theorem fn18 (cap : Array Value) (w : World) : (callFunc 18 cap).run Tryd.prog w = .ok (.enter 18 cap) w := by kernel_rfl
theorem fn19 (cap : Array Value) (w : World) : (callFunc 19 cap).run Tryd.prog w = .ok (.enter 19 cap) w := by kernel_rfl
theorem fn20 (cap : Array Value) (w : World) : (callFunc 20 cap).run Tryd.prog w = .ok (.enter 20 cap) w := by kernel_rfl
theorem fn21 (cap : Array Value) (w : World) : (callFunc 21 cap).run Tryd.prog w = .ok (.enter 21 cap) w := by kernel_rfl
theorem mf (fn : Fn) (first cap : Array Value) (w : World) : (Instr.makeFunc fn first cap).run Tryd.prog w = .ok (.func fn first cap) w := rfl
theorem alive_c1 (a : String → Addr) (w : World) (h : ErrsOk names a w) : Calls Tryd.prog 8 #[.func (.func 22) #[] #[]] w fun e w' => e = .returned (errAt a 11) ∧ Below w.heap.size w w' :=
  catch_plain a 11 _ _ (fun w => fn22 w) w h fun wx hb => alive_1 a wx (h.below hb)
theorem alive_c2 (a : String → Addr) (b : Nat) (w : World) (h : ErrsOk names a w) (hv : Var b (.int .i64 0) w) : Calls Tryd.prog 8 #[.func (.func 24) #[] #[.pointer (some ⟨b, 0, none⟩)]] w fun e w' => e = .returned (errAt a 10) ∧ Below w.heap.size w w' :=
  catch_plain a 10 _ _ (fun w => fn24 _ w) w h fun wx hb => alive_2 a b wx (hv.below hb)
theorem alive_any (a : String → Addr) (w : World) (h : ErrsOk names a w) : Calls Tryd.prog 6 #[] w fun e w' => e = .returned (.bool true) ∧ Below w.heap.size w w' := by
  have hmf := mf
  have hv := Var.new w (.int .i64 0) 3
  have hb0 : Below w.heap.size w (w.alloc (.cells #[.int .i64 0] 3)) := (Below.refl _ w).alloc (Nat.le_refl _) _
  have h0 := h.below hb0
  have c1 := Lib.hid (alive_c1 a _ h0)
  have HV := Lib.hid hv
  clear hv
  go_enter Tryd.func6, Tryd.ntmps6
  go_wp2_with (first
    | (go_at_call 8; (with_reducible refine c1.out.mono ?_); rintro e w1 ⟨rfl, hb1⟩; have h1 := h0.below hb1; have hv1 := HV.out.below hb1; have hb01 := below_step hb0 hb1)
    | (go_at_call 11; (with_reducible refine (num_err a 11 (by decide) _ h1).mono ?_); rintro e w2 ⟨rfl, hb2⟩; have h2 := h1.below hb2; have hv2 := hv1.below hb2)
    | (go_at_call 8; (with_reducible refine (alive_c2 a w.heap.size _ h2 hv2).mono ?_); rintro e w3 ⟨rfl, hb3⟩; have h3 := h2.below hb3)
    | (go_at_call 11; (with_reducible refine (num_err a 10 (by decide) _ h3).mono ?_); rintro e w4 ⟨rfl, hb4⟩))
  go_ret
  exact ⟨rfl, below_step (below_step (below_step hb01 hb2) hb3) hb4⟩

theorem num_empty (a : String → Addr) (w : World) (h : ErrsOk names a w) : Calls Tryd.prog 11 #[errV (a "ambler/api.ErrEmpty")] w fun e w' => e = .returned (.int .i64 12) ∧ Below w.heap.size w w' := num_at a 11 (by decide) w h
theorem catches_c (a : String → Addr) (bd bk bn k : Nat) (hk : k < 11) (n : Int) (w : World) (hd : Var bd (.int .i64 0) w) (h1 : Var bk (.int .i64 (k : Nat)) w) (h2 : Var bn (.int .i64 n) w) (n1 : bd ≠ bk) (n2 : bd ≠ bn)
    (hE : ∀ wx, Past [bd] w wx → ErrsOk names a wx) :
    Calls Tryd.prog 8 #[.func (.func 9) #[] #[.pointer (some ⟨bd, 0, none⟩), .pointer (some ⟨bk, 0, none⟩), .pointer (some ⟨bn, 0, none⟩)]] w fun e w' => e = .returned (errAt a (actN k n)) ∧ Past [bd] w w' ∧ Var bd (.int .i64 7) w' := by
  have hb : Below w.heap.size w ((w.alloc (.cells #[.nilIface] 25)).alloc (.cells #[.bool false] 4)) := ((Below.refl _ w).alloc (Nat.le_refl _) _).alloc (by simp) _
  have hp : Past [bd] w ((w.alloc (.cells #[.nilIface] 25)).alloc (.cells #[.bool false] 4)) := Past.of hb
  exact catch_any a _ _ _ (fn9 _) [bd] (Var bd (.int .i64 7)) w (by simpa using hd.lt) hE (fun w1 w2 h he => h.of_block (he bd hd.lt))
    (catches_1 a bd bk bn k hk n _ 0 (hE _ hp) (hd.below hb) (h1.below hb) (h2.below hb) n1 n2 fun wx hx => hE wx (hp.trans hx))
set_option maxHeartbeats 1600000 in
theorem catches_any (x n : Int) (w : World) (a : String → Addr) (h : ErrsOk names a w) : Calls Tryd.prog 3 #[.int .i64 x, .int .i64 n] w fun e w' => e = .returned (.bool true) ∧ Below w.heap.size w w' := by
  have hmf := mf
  have hb0 : Below w.heap.size w (w.alloc (.cells #[.int .i64 n] 3)) := (Below.refl _ w).alloc (Nat.le_refl _) _
  have h0 := h.below hb0
  have HV := Lib.hid (Var.new w (.int .i64 n) 3)
  have hk := kindN_lt x
  have HK := Lib.hid (fun w => kinds_any x w)
  generalize kindN x = k at hk HK
  have HK' := Lib.hid hk
  clear hk
  go_enter Tryd.func3, Tryd.ntmps3
  go_wp2_with (first
    | (go_at_call 6; refine (alive_any a _ h0).mono ?_; rintro e w1 ⟨rfl, hb1⟩)
    | (go_at_call 7; (with_reducible refine (HK.out _).mono ?_); rintro e w' ⟨rfl, rfl⟩))
  have hb01 := below_step hb0 hb1
  have hlt := HV.out.lt
  have hz1 := hb1.size
  have vn := ((HV.out.below hb1).alloc (.cells #[.int .i64 k] 3)).alloc (.cells #[.int .i64 0] 3)
  have vk := (Var.new w1 (.int .i64 k) 3).alloc (.cells #[.int .i64 0] 3)
  have vd := Var.new (w1.alloc (.cells #[.int .i64 k] 3)) (.int .i64 0) 3
  rw [World.size_alloc] at vd
  have hb13 : Below w1.heap.size w1 ((w1.alloc (.cells #[.int .i64 k] 3)).alloc (.cells #[.int .i64 0] 3)) := ((Below.refl _ w1).alloc (Nat.le_refl _) _).alloc (by simp) _
  have hs3 : ((w1.alloc (.cells #[.int .i64 k] 3)).alloc (.cells #[.int .i64 0] 3)).heap.size = w1.heap.size + 2 := by rw [World.size_alloc, World.size_alloc]
  have h1 := h0.below hb1
  generalize (w1.alloc (.cells #[.int .i64 k] 3)).alloc (.cells #[.int .i64 0] 3) = w3 at vn vk vd hb13 hs3 ⊢
  have hP : ∀ wx, Past [w1.heap.size + 1] w3 wx → Below w1.heap.size w1 wx := fun wx hx => hb13.trans (hx.below (by omega) (by simp))
  have cc := catches_c a (w1.heap.size + 1) w1.heap.size w.heap.size k HK'.out n w3 vd vk vn (by omega) (by omega) fun wx hx => h1.below (hP wx hx)
  refine cc.mono ?_
  rintro e w4 ⟨rfl, hp4, vd4⟩
  have hb4 := below_step hb01 (hP w4 hp4)
  have h4 := h.below hb4
  have vk4 := vk.past hp4 (by simp)
  have vn4 := vn.past hp4 (by simp; omega)
  clear cc hP vn vk vd hb13 hs3 hb01 hb1 h1 hp4 HV
  have hN := actN_le k n
  have cO : ∀ m : Under w4, Calls Tryd.prog 12 #[.int .i64 (k : Nat), .int .i64 n] m.W fun e w' => e = .returned (.int .i64 (actN k n : Nat)) ∧ m.W = w' := fun m => of_any k HK'.out n m.W
  generalize actN k n = N at cO hN ⊢
  have cN : ∀ m : Under w4, Calls Tryd.prog 11 #[errAt a N] m.W fun e w' => e = .returned (.int .i64 (N : Nat)) ∧ Below m.W.heap.size m.W w' := fun m => num_err a N hN _ (h4.below m.below)
  have cC : ∀ m : Under w4, Calls Tryd.prog 8 #[.nilFunc] m.W fun e w' => e = .returned (errV (a "ambler/api.ErrEmpty")) ∧ Below m.W.heap.size m.W w' := fun m => catch_nil a _ (h4.below m.below)
  have cE : ∀ m : Under w4, Calls Tryd.prog 11 #[errV (a "ambler/api.ErrEmpty")] m.W fun e w' => e = .returned (.int .i64 12) ∧ Below m.W.heap.size m.W w' := fun m => num_empty a _ (h4.below m.below)
  have n1 := Under.cell vd4.cell
  have n2 := Under.cell vk4.cell
  have n3 := Under.cell vn4.cell
  clear h4 vd4 vk4 vn4 hN HK HK'
  go_wp2
  refine wp_region_under (by kernel_rfl) (by kernel_rfl) ?_
  repeat (quiet_step ((first
    | (go_at_call 11; (with_reducible refine under_call (cN _)))
    | (go_at_call 12; (with_reducible refine under_same (cO _)))
    | (go_at_call 8; (with_reducible refine under_call (cC _)))
    | (go_at_call 11; (with_reducible refine under_call (cE _))))))
  refine wpQuiet_nil ?_
  intro w5 hw5
  obtain ⟨m, rfl⟩ := hw5
  go_wp2
  go_ret
  exact ⟨rfl, below_step hb4 m.below⟩
end Go.Proofs.YtpjnilefbbjcgaaDoor.trap
