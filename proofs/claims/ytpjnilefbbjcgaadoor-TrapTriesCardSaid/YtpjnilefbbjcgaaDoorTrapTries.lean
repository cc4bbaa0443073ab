/- trap: TrapTries. -/
import Derived.Test.YtpjnilefbbjcgaaDoorTrapTry
namespace Go.Proofs.YtpjnilefbbjcgaaDoor.trap
open Go.RowKit errs under
set_option linter.unusedSimpArgs false
set_option linter.unusedVariables false

theorem fn14 (cap : Array Value) (w : World) : (callFunc 14 cap).run Tryd.prog w = .ok (.enter 14 cap) w := by kernel_rfl
theorem fn16 (cap : Array Value) (w : World) : (callFunc 16 cap).run Tryd.prog w = .ok (.enter 16 cap) w := by kernel_rfl
set_option maxHeartbeats 4000000 in
theorem tries_tt (x n v : Int) (w : World) (a : String → Addr) (h : ErrsOk names a w) (k : Nat) (hk : k < 11) (N M : Nat) (hN : N ≤ 16) (hM : M ≤ 16) (eN : ((N : Int) == 0) = true) (eM : ((M : Int) == 0) = true)
    (cK : ∀ w, Calls Tryd.prog 7 #[.int .i64 x] w fun e w' => e = .returned (.int .i64 (k : Nat)) ∧ w = w')
    (cO : ∀ w, Calls Tryd.prog 12 #[.int .i64 (k : Nat), .int .i64 n] w fun e w' => e = .returned (.int .i64 (N : Nat)) ∧ w = w')
    (cE : ∀ w, ErrsOk names a w → Calls Tryd.prog 15 #[.int .i64 n] w fun e w' => e = .returned (errAt a M) ∧ Below w.heap.size w w')
    (cT : ∀ (w : World) (bk bn bv : Nat), ErrsOk names a w → Var bk (.int .i64 (k : Nat)) w → Var bn (.int .i64 n) w → Var bv (.int .i64 v) w → Calls Tryd.prog 13 #[.func (.func 14) #[] #[.pointer (some ⟨bk, 0, none⟩), .pointer (some ⟨bn, 0, none⟩), .pointer (some ⟨bv, 0, none⟩)]] w fun e w' => e = .returned (.tuple #[.int .i64 v, errAt a M]) ∧ Below w.heap.size w w')
    (cU : ∀ (w : World) (bv bn : Nat), ErrsOk names a w → Var bn (.int .i64 n) w → Var bv (.int .i64 v) w → Calls Tryd.prog 13 #[.func (.func 16) #[] #[.pointer (some ⟨bv, 0, none⟩), .pointer (some ⟨bn, 0, none⟩)]] w fun e w' => e = .returned (.tuple #[.int .i64 v, errAt a M]) ∧ Below w.heap.size w w') :
    Calls Tryd.prog 4 #[.int .i64 x, .int .i64 n, .int .i64 v] w fun e w' => e = .returned (.bool true) ∧ Below w.heap.size w w' := by
  have hmf := mf
  have hb0 : Below w.heap.size w ((w.alloc (.cells #[.int .i64 n] 3)).alloc (.cells #[.int .i64 v] 3)) := ((Below.refl _ w).alloc (Nat.le_refl _) _).alloc (by simp) _
  have vn := (Var.new w (.int .i64 n) 3).alloc (.cells #[.int .i64 v] 3)
  have vv := Var.new (w.alloc (.cells #[.int .i64 n] 3)) (.int .i64 v) 3
  rw [World.size_alloc] at vv
  have h0 := h.below hb0
  have VN := Lib.hid vn
  have VV := Lib.hid vv
  have CK := Lib.hid cK
  have CO := Lib.hid cO
  have CE := Lib.hid cE
  have CT := Lib.hid cT
  have CU := Lib.hid cU
  clear vn vv cK cO cE cT cU
  go_enter Tryd.func4, Tryd.ntmps4
  go_wp2_with (first
    | (go_at_call 6; refine (alive_any a _ h0).mono ?_; rintro e w1 ⟨rfl, hb1⟩)
    | (go_at_call 7; (with_reducible refine (CK.out _).mono ?_); rintro e w' ⟨rfl, rfl⟩))
  have hb01 := below_step hb0 hb1
  have vn1 := (VN.out.below hb1).alloc (.cells #[.int .i64 k] 3)
  have vv1 := (VV.out.below hb1).alloc (.cells #[.int .i64 k] 3)
  have vk1 := Var.new w1 (.int .i64 k) 3
  have hb02 := hb01.trans ((Below.refl _ w1).alloc (by have := hb01.size; omega) (.cells #[.int .i64 k] 3))
  generalize w1.alloc (.cells #[.int .i64 k] 3) = w2 at vn1 vv1 vk1 hb02 ⊢
  have h2 := h.below hb02
  refine (CT.out _ _ _ _ h2 vk1 vn1 vv1).mono ?_
  rintro e w3 ⟨rfl, hb3⟩
  have vn3 := vn1.below hb3
  have vv3 := vv1.below hb3
  have vk3 := vk1.below hb3
  have hb03 := below_step hb02 hb3
  clear VN VV vn1 vv1 vk1 hb01 hb02 hb1 hb3 h0 hb0 h2
  have d1 := Under.cell vk3.cell
  have d2 := Under.cell vn3.cell
  have d3 := Under.cell vv3.cell
  have cO : ∀ m : Under w3, Calls Tryd.prog 12 #[.int .i64 (k : Nat), .int .i64 n] m.W fun e w' => e = .returned (.int .i64 (N : Nat)) ∧ m.W = w' := fun m => CO.out m.W
  have VN := Lib.hid vn3
  have VV := Lib.hid vv3
  clear vn3 vv3 vk3
  go_wp2
  refine wp_region_under (by kernel_rfl) (by kernel_rfl) ?_
  repeat (quiet_step ((go_at_call 12; (with_reducible refine under_same (cO _)))))
  refine wpQuiet_nil ?_
  intro w4 hw4
  obtain ⟨m, rfl⟩ := hw4
  have vn4 := VN.out.below m.below
  have vv4 := VV.out.below m.below
  have hb04 := below_step hb03 m.below
  generalize m.W = w4 at vn4 vv4 hb04 ⊢
  clear d1 d2 d3 cO VN VV hb03 m CO CT
  have h4 := h.below hb04
  have c4 := vn4.cell
  have VN := Lib.hid vn4
  have VV := Lib.hid vv4
  have HM := Lib.hid (fun w (h : ErrsOk names a w) => num_err a M hM w h)
  clear vn4 vv4
  go_wp2_with (first
    | (go_at_call 15; (with_reducible refine (CE.out _ h4).mono ?_); rintro e w5 ⟨rfl, hb5⟩; have h5 := h4.below hb5)
    | (go_at_call 11; (with_reducible refine (HM.out _ h5).mono ?_); rintro e w6 ⟨rfl, hb6⟩; have h6 := h5.below hb6; have hb46 := below_step hb5 hb6)
    | (go_at_call 13; (with_reducible refine (try_nil a _ h6).mono ?_); rintro e w7 ⟨rfl, hb7⟩; have h7 := h6.below hb7; have hb47 := below_step hb46 hb7; have vn7 := VN.out.below hb47; have vv7 := VV.out.below hb47)
    | (go_at_call 13; (with_reducible refine (CU.out _ _ _ h7 vn7 vv7).mono ?_); rintro e w8 ⟨rfl, hb8⟩; have vn8 := vn7.below hb8; have vv8 := vv7.below hb8))
  have hb48 := below_step hb47 hb8
  have hb08 := below_step hb04 hb48
  have h8 := h.below hb08
  have d2 := Under.cell vn8.cell
  have d3 := Under.cell vv8.cell
  have cE : ∀ m : Under w8, Calls Tryd.prog 15 #[.int .i64 n] m.W fun e w' => e = .returned (errAt a M) ∧ Below m.W.heap.size m.W w' := fun m => CE.out m.W (h8.below m.below)
  have cM : ∀ m : Under w8, Calls Tryd.prog 11 #[errAt a M] m.W fun e w' => e = .returned (.int .i64 (M : Nat)) ∧ Below m.W.heap.size m.W w' := fun m => HM.out m.W (h8.below m.below)
  refine wp_region_under (by kernel_rfl) (by kernel_rfl) ?_
  repeat (quiet_step ((first
    | (go_at_call 15; (with_reducible refine under_call (cE _)))
    | (go_at_call 11; (with_reducible refine under_call (cM _))))))
  refine wpQuiet_nil ?_
  intro w9 hw9
  obtain ⟨m, rfl⟩ := hw9
  have hb09 := below_step hb08 m.below
  have h9 := h8.below m.below
  generalize m.W = w9 at hb09 h9 ⊢
  have HN := Lib.hid (fun w (h : ErrsOk names a w) => num_err a N hN w h)
  clear d2 d3 cE cM vn8 vv8 vn7 vv7 VN VV CE CU CK hb48 hb47
  go_wp2_with (first
    | (go_at_call 11; (with_reducible refine (HM.out _ h9).mono ?_); rintro e w10 ⟨rfl, hb10⟩; have h10 := h9.below hb10)
    | (go_at_call 11; (with_reducible refine (num_empty a _ h10).mono ?_); rintro e w11 ⟨rfl, hb11⟩; have h11 := h10.below hb11)
    | (go_at_call 11; (with_reducible refine (HM.out _ h11).mono ?_); rintro e w12 ⟨rfl, hb12⟩))
  go_ret
  exact ⟨rfl, below_step (below_step (below_step hb09 hb10) hb11) hb12⟩
set_option maxHeartbeats 4000000 in
theorem tries_tf (x n v : Int) (w : World) (a : String → Addr) (h : ErrsOk names a w) (k : Nat) (hk : k < 11) (N M : Nat) (hN : N ≤ 16) (hM : M ≤ 16) (eN : ((N : Int) == 0) = true) (eM : ((M : Int) == 0) = false)
    (cK : ∀ w, Calls Tryd.prog 7 #[.int .i64 x] w fun e w' => e = .returned (.int .i64 (k : Nat)) ∧ w = w')
    (cO : ∀ w, Calls Tryd.prog 12 #[.int .i64 (k : Nat), .int .i64 n] w fun e w' => e = .returned (.int .i64 (N : Nat)) ∧ w = w')
    (cE : ∀ w, ErrsOk names a w → Calls Tryd.prog 15 #[.int .i64 n] w fun e w' => e = .returned (errAt a M) ∧ Below w.heap.size w w')
    (cT : ∀ (w : World) (bk bn bv : Nat), ErrsOk names a w → Var bk (.int .i64 (k : Nat)) w → Var bn (.int .i64 n) w → Var bv (.int .i64 v) w → Calls Tryd.prog 13 #[.func (.func 14) #[] #[.pointer (some ⟨bk, 0, none⟩), .pointer (some ⟨bn, 0, none⟩), .pointer (some ⟨bv, 0, none⟩)]] w fun e w' => e = .returned (.tuple #[.int .i64 0, errAt a M]) ∧ Below w.heap.size w w')
    (cU : ∀ (w : World) (bv bn : Nat), ErrsOk names a w → Var bn (.int .i64 n) w → Var bv (.int .i64 v) w → Calls Tryd.prog 13 #[.func (.func 16) #[] #[.pointer (some ⟨bv, 0, none⟩), .pointer (some ⟨bn, 0, none⟩)]] w fun e w' => e = .returned (.tuple #[.int .i64 0, errAt a M]) ∧ Below w.heap.size w w') :
    Calls Tryd.prog 4 #[.int .i64 x, .int .i64 n, .int .i64 v] w fun e w' => e = .returned (.bool true) ∧ Below w.heap.size w w' := by
  have hmf := mf
  have hb0 : Below w.heap.size w ((w.alloc (.cells #[.int .i64 n] 3)).alloc (.cells #[.int .i64 v] 3)) := ((Below.refl _ w).alloc (Nat.le_refl _) _).alloc (by simp) _
  have vn := (Var.new w (.int .i64 n) 3).alloc (.cells #[.int .i64 v] 3)
  have vv := Var.new (w.alloc (.cells #[.int .i64 n] 3)) (.int .i64 v) 3
  rw [World.size_alloc] at vv
  have h0 := h.below hb0
  have VN := Lib.hid vn
  have VV := Lib.hid vv
  have CK := Lib.hid cK
  have CO := Lib.hid cO
  have CE := Lib.hid cE
  have CT := Lib.hid cT
  have CU := Lib.hid cU
  clear vn vv cK cO cE cT cU
  go_enter Tryd.func4, Tryd.ntmps4
  go_wp2_with (first
    | (go_at_call 6; refine (alive_any a _ h0).mono ?_; rintro e w1 ⟨rfl, hb1⟩)
    | (go_at_call 7; (with_reducible refine (CK.out _).mono ?_); rintro e w' ⟨rfl, rfl⟩))
  have hb01 := below_step hb0 hb1
  have vn1 := (VN.out.below hb1).alloc (.cells #[.int .i64 k] 3)
  have vv1 := (VV.out.below hb1).alloc (.cells #[.int .i64 k] 3)
  have vk1 := Var.new w1 (.int .i64 k) 3
  have hb02 := hb01.trans ((Below.refl _ w1).alloc (by have := hb01.size; omega) (.cells #[.int .i64 k] 3))
  generalize w1.alloc (.cells #[.int .i64 k] 3) = w2 at vn1 vv1 vk1 hb02 ⊢
  have h2 := h.below hb02
  refine (CT.out _ _ _ _ h2 vk1 vn1 vv1).mono ?_
  rintro e w3 ⟨rfl, hb3⟩
  have vn3 := vn1.below hb3
  have vv3 := vv1.below hb3
  have vk3 := vk1.below hb3
  have hb03 := below_step hb02 hb3
  clear VN VV vn1 vv1 vk1 hb01 hb02 hb1 hb3 h0 hb0 h2
  have d1 := Under.cell vk3.cell
  have d2 := Under.cell vn3.cell
  have d3 := Under.cell vv3.cell
  have cO : ∀ m : Under w3, Calls Tryd.prog 12 #[.int .i64 (k : Nat), .int .i64 n] m.W fun e w' => e = .returned (.int .i64 (N : Nat)) ∧ m.W = w' := fun m => CO.out m.W
  have VN := Lib.hid vn3
  have VV := Lib.hid vv3
  clear vn3 vv3 vk3
  go_wp2
  refine wp_region_under (by kernel_rfl) (by kernel_rfl) ?_
  repeat (quiet_step ((go_at_call 12; (with_reducible refine under_same (cO _)))))
  refine wpQuiet_nil ?_
  intro w4 hw4
  obtain ⟨m, rfl⟩ := hw4
  have vn4 := VN.out.below m.below
  have vv4 := VV.out.below m.below
  have hb04 := below_step hb03 m.below
  generalize m.W = w4 at vn4 vv4 hb04 ⊢
  clear d1 d2 d3 cO VN VV hb03 m CO CT
  have h4 := h.below hb04
  have c4 := vn4.cell
  have VN := Lib.hid vn4
  have VV := Lib.hid vv4
  have HM := Lib.hid (fun w (h : ErrsOk names a w) => num_err a M hM w h)
  clear vn4 vv4
  go_wp2_with (first
    | (go_at_call 15; (with_reducible refine (CE.out _ h4).mono ?_); rintro e w5 ⟨rfl, hb5⟩; have h5 := h4.below hb5)
    | (go_at_call 11; (with_reducible refine (HM.out _ h5).mono ?_); rintro e w6 ⟨rfl, hb6⟩; have h6 := h5.below hb6; have hb46 := below_step hb5 hb6)
    | (go_at_call 13; (with_reducible refine (try_nil a _ h6).mono ?_); rintro e w7 ⟨rfl, hb7⟩; have h7 := h6.below hb7; have hb47 := below_step hb46 hb7; have vn7 := VN.out.below hb47; have vv7 := VV.out.below hb47)
    | (go_at_call 13; (with_reducible refine (CU.out _ _ _ h7 vn7 vv7).mono ?_); rintro e w8 ⟨rfl, hb8⟩; have vn8 := vn7.below hb8; have vv8 := vv7.below hb8))
  have hb48 := below_step hb47 hb8
  have hb08 := below_step hb04 hb48
  have h8 := h.below hb08
  have d2 := Under.cell vn8.cell
  have d3 := Under.cell vv8.cell
  have cE : ∀ m : Under w8, Calls Tryd.prog 15 #[.int .i64 n] m.W fun e w' => e = .returned (errAt a M) ∧ Below m.W.heap.size m.W w' := fun m => CE.out m.W (h8.below m.below)
  have cM : ∀ m : Under w8, Calls Tryd.prog 11 #[errAt a M] m.W fun e w' => e = .returned (.int .i64 (M : Nat)) ∧ Below m.W.heap.size m.W w' := fun m => HM.out m.W (h8.below m.below)
  refine wp_region_under (by kernel_rfl) (by kernel_rfl) ?_
  repeat (quiet_step ((first
    | (go_at_call 15; (with_reducible refine under_call (cE _)))
    | (go_at_call 11; (with_reducible refine under_call (cM _))))))
  refine wpQuiet_nil ?_
  intro w9 hw9
  obtain ⟨m, rfl⟩ := hw9
  have hb09 := below_step hb08 m.below
  have h9 := h8.below m.below
  generalize m.W = w9 at hb09 h9 ⊢
  have HN := Lib.hid (fun w (h : ErrsOk names a w) => num_err a N hN w h)
  clear d2 d3 cE cM vn8 vv8 vn7 vv7 VN VV CE CU CK hb48 hb47
  go_wp2_with (first
    | (go_at_call 11; (with_reducible refine (HM.out _ h9).mono ?_); rintro e w10 ⟨rfl, hb10⟩; have h10 := h9.below hb10)
    | (go_at_call 11; (with_reducible refine (num_empty a _ h10).mono ?_); rintro e w11 ⟨rfl, hb11⟩; have h11 := h10.below hb11)
    | (go_at_call 11; (with_reducible refine (HM.out _ h11).mono ?_); rintro e w12 ⟨rfl, hb12⟩))
  go_ret
  exact ⟨rfl, below_step (below_step (below_step hb09 hb10) hb11) hb12⟩
set_option maxHeartbeats 4000000 in
theorem tries_ft (x n v : Int) (w : World) (a : String → Addr) (h : ErrsOk names a w) (k : Nat) (hk : k < 11) (N M : Nat) (hN : N ≤ 16) (hM : M ≤ 16) (eN : ((N : Int) == 0) = false) (eM : ((M : Int) == 0) = true)
    (cK : ∀ w, Calls Tryd.prog 7 #[.int .i64 x] w fun e w' => e = .returned (.int .i64 (k : Nat)) ∧ w = w')
    (cO : ∀ w, Calls Tryd.prog 12 #[.int .i64 (k : Nat), .int .i64 n] w fun e w' => e = .returned (.int .i64 (N : Nat)) ∧ w = w')
    (cE : ∀ w, ErrsOk names a w → Calls Tryd.prog 15 #[.int .i64 n] w fun e w' => e = .returned (errAt a M) ∧ Below w.heap.size w w')
    (cT : ∀ (w : World) (bk bn bv : Nat), ErrsOk names a w → Var bk (.int .i64 (k : Nat)) w → Var bn (.int .i64 n) w → Var bv (.int .i64 v) w → Calls Tryd.prog 13 #[.func (.func 14) #[] #[.pointer (some ⟨bk, 0, none⟩), .pointer (some ⟨bn, 0, none⟩), .pointer (some ⟨bv, 0, none⟩)]] w fun e w' => e = .returned (.tuple #[.int .i64 0, errAt a N]) ∧ Below w.heap.size w w')
    (cU : ∀ (w : World) (bv bn : Nat), ErrsOk names a w → Var bn (.int .i64 n) w → Var bv (.int .i64 v) w → Calls Tryd.prog 13 #[.func (.func 16) #[] #[.pointer (some ⟨bv, 0, none⟩), .pointer (some ⟨bn, 0, none⟩)]] w fun e w' => e = .returned (.tuple #[.int .i64 v, errAt a M]) ∧ Below w.heap.size w w') :
    Calls Tryd.prog 4 #[.int .i64 x, .int .i64 n, .int .i64 v] w fun e w' => e = .returned (.bool true) ∧ Below w.heap.size w w' := by
  have hmf := mf
  have hb0 : Below w.heap.size w ((w.alloc (.cells #[.int .i64 n] 3)).alloc (.cells #[.int .i64 v] 3)) := ((Below.refl _ w).alloc (Nat.le_refl _) _).alloc (by simp) _
  have vn := (Var.new w (.int .i64 n) 3).alloc (.cells #[.int .i64 v] 3)
  have vv := Var.new (w.alloc (.cells #[.int .i64 n] 3)) (.int .i64 v) 3
  rw [World.size_alloc] at vv
  have h0 := h.below hb0
  have VN := Lib.hid vn
  have VV := Lib.hid vv
  have CK := Lib.hid cK
  have CO := Lib.hid cO
  have CE := Lib.hid cE
  have CT := Lib.hid cT
  have CU := Lib.hid cU
  clear vn vv cK cO cE cT cU
  go_enter Tryd.func4, Tryd.ntmps4
  go_wp2_with (first
    | (go_at_call 6; refine (alive_any a _ h0).mono ?_; rintro e w1 ⟨rfl, hb1⟩)
    | (go_at_call 7; (with_reducible refine (CK.out _).mono ?_); rintro e w' ⟨rfl, rfl⟩))
  have hb01 := below_step hb0 hb1
  have vn1 := (VN.out.below hb1).alloc (.cells #[.int .i64 k] 3)
  have vv1 := (VV.out.below hb1).alloc (.cells #[.int .i64 k] 3)
  have vk1 := Var.new w1 (.int .i64 k) 3
  have hb02 := hb01.trans ((Below.refl _ w1).alloc (by have := hb01.size; omega) (.cells #[.int .i64 k] 3))
  generalize w1.alloc (.cells #[.int .i64 k] 3) = w2 at vn1 vv1 vk1 hb02 ⊢
  have h2 := h.below hb02
  refine (CT.out _ _ _ _ h2 vk1 vn1 vv1).mono ?_
  rintro e w3 ⟨rfl, hb3⟩
  have vn3 := vn1.below hb3
  have vv3 := vv1.below hb3
  have vk3 := vk1.below hb3
  have hb03 := below_step hb02 hb3
  clear VN VV vn1 vv1 vk1 hb01 hb02 hb1 hb3 h0 hb0 h2
  have d1 := Under.cell vk3.cell
  have d2 := Under.cell vn3.cell
  have d3 := Under.cell vv3.cell
  have cO : ∀ m : Under w3, Calls Tryd.prog 12 #[.int .i64 (k : Nat), .int .i64 n] m.W fun e w' => e = .returned (.int .i64 (N : Nat)) ∧ m.W = w' := fun m => CO.out m.W
  have VN := Lib.hid vn3
  have VV := Lib.hid vv3
  clear vn3 vv3 vk3
  go_wp2
  refine wp_region_under (by kernel_rfl) (by kernel_rfl) ?_
  repeat (quiet_step ((go_at_call 12; (with_reducible refine under_same (cO _)))))
  refine wpQuiet_nil ?_
  intro w4 hw4
  obtain ⟨m, rfl⟩ := hw4
  have vn4 := VN.out.below m.below
  have vv4 := VV.out.below m.below
  have hb04 := below_step hb03 m.below
  generalize m.W = w4 at vn4 vv4 hb04 ⊢
  clear d1 d2 d3 cO VN VV hb03 m CO CT
  have h4 := h.below hb04
  have c4 := vn4.cell
  have VN := Lib.hid vn4
  have VV := Lib.hid vv4
  have HM := Lib.hid (fun w (h : ErrsOk names a w) => num_err a M hM w h)
  clear vn4 vv4
  go_wp2_with (first
    | (go_at_call 13; (with_reducible refine (try_nil a _ h4).mono ?_); rintro e w7 ⟨rfl, hb7⟩; have h7 := h4.below hb7; have hb47 := below_step (Below.refl _ _) hb7; have vn7 := VN.out.below hb47; have vv7 := VV.out.below hb47)
    | (go_at_call 13; (with_reducible refine (CU.out _ _ _ h7 vn7 vv7).mono ?_); rintro e w8 ⟨rfl, hb8⟩; have vn8 := vn7.below hb8; have vv8 := vv7.below hb8))
  have hb48 := below_step hb47 hb8
  have hb08 := below_step hb04 hb48
  have h8 := h.below hb08
  have d2 := Under.cell vn8.cell
  have d3 := Under.cell vv8.cell
  have cE : ∀ m : Under w8, Calls Tryd.prog 15 #[.int .i64 n] m.W fun e w' => e = .returned (errAt a M) ∧ Below m.W.heap.size m.W w' := fun m => CE.out m.W (h8.below m.below)
  have cM : ∀ m : Under w8, Calls Tryd.prog 11 #[errAt a M] m.W fun e w' => e = .returned (.int .i64 (M : Nat)) ∧ Below m.W.heap.size m.W w' := fun m => HM.out m.W (h8.below m.below)
  refine wp_region_under (by kernel_rfl) (by kernel_rfl) ?_
  repeat (quiet_step ((first
    | (go_at_call 15; (with_reducible refine under_call (cE _)))
    | (go_at_call 11; (with_reducible refine under_call (cM _))))))
  refine wpQuiet_nil ?_
  intro w9 hw9
  obtain ⟨m, rfl⟩ := hw9
  have hb09 := below_step hb08 m.below
  have h9 := h8.below m.below
  generalize m.W = w9 at hb09 h9 ⊢
  have HN := Lib.hid (fun w (h : ErrsOk names a w) => num_err a N hN w h)
  clear d2 d3 cE cM vn8 vv8 vn7 vv7 VN VV CE CU CK hb48 hb47
  go_wp2_with (first
    | (go_at_call 11; (with_reducible refine (HN.out _ h9).mono ?_); rintro e w10 ⟨rfl, hb10⟩; have h10 := h9.below hb10)
    | (go_at_call 11; (with_reducible refine (num_empty a _ h10).mono ?_); rintro e w11 ⟨rfl, hb11⟩; have h11 := h10.below hb11)
    | (go_at_call 11; (with_reducible refine (HM.out _ h11).mono ?_); rintro e w12 ⟨rfl, hb12⟩))
  go_ret
  exact ⟨rfl, below_step (below_step (below_step hb09 hb10) hb11) hb12⟩
set_option maxHeartbeats 4000000 in
theorem tries_ff (x n v : Int) (w : World) (a : String → Addr) (h : ErrsOk names a w) (k : Nat) (hk : k < 11) (N M : Nat) (hN : N ≤ 16) (hM : M ≤ 16) (eN : ((N : Int) == 0) = false) (eM : ((M : Int) == 0) = false)
    (cK : ∀ w, Calls Tryd.prog 7 #[.int .i64 x] w fun e w' => e = .returned (.int .i64 (k : Nat)) ∧ w = w')
    (cO : ∀ w, Calls Tryd.prog 12 #[.int .i64 (k : Nat), .int .i64 n] w fun e w' => e = .returned (.int .i64 (N : Nat)) ∧ w = w')
    (cE : ∀ w, ErrsOk names a w → Calls Tryd.prog 15 #[.int .i64 n] w fun e w' => e = .returned (errAt a M) ∧ Below w.heap.size w w')
    (cT : ∀ (w : World) (bk bn bv : Nat), ErrsOk names a w → Var bk (.int .i64 (k : Nat)) w → Var bn (.int .i64 n) w → Var bv (.int .i64 v) w → Calls Tryd.prog 13 #[.func (.func 14) #[] #[.pointer (some ⟨bk, 0, none⟩), .pointer (some ⟨bn, 0, none⟩), .pointer (some ⟨bv, 0, none⟩)]] w fun e w' => e = .returned (.tuple #[.int .i64 0, errAt a N]) ∧ Below w.heap.size w w')
    (cU : ∀ (w : World) (bv bn : Nat), ErrsOk names a w → Var bn (.int .i64 n) w → Var bv (.int .i64 v) w → Calls Tryd.prog 13 #[.func (.func 16) #[] #[.pointer (some ⟨bv, 0, none⟩), .pointer (some ⟨bn, 0, none⟩)]] w fun e w' => e = .returned (.tuple #[.int .i64 0, errAt a M]) ∧ Below w.heap.size w w') :
    Calls Tryd.prog 4 #[.int .i64 x, .int .i64 n, .int .i64 v] w fun e w' => e = .returned (.bool true) ∧ Below w.heap.size w w' := by
  have hmf := mf
  have hb0 : Below w.heap.size w ((w.alloc (.cells #[.int .i64 n] 3)).alloc (.cells #[.int .i64 v] 3)) := ((Below.refl _ w).alloc (Nat.le_refl _) _).alloc (by simp) _
  have vn := (Var.new w (.int .i64 n) 3).alloc (.cells #[.int .i64 v] 3)
  have vv := Var.new (w.alloc (.cells #[.int .i64 n] 3)) (.int .i64 v) 3
  rw [World.size_alloc] at vv
  have h0 := h.below hb0
  have VN := Lib.hid vn
  have VV := Lib.hid vv
  have CK := Lib.hid cK
  have CO := Lib.hid cO
  have CE := Lib.hid cE
  have CT := Lib.hid cT
  have CU := Lib.hid cU
  clear vn vv cK cO cE cT cU
  go_enter Tryd.func4, Tryd.ntmps4
  go_wp2_with (first
    | (go_at_call 6; refine (alive_any a _ h0).mono ?_; rintro e w1 ⟨rfl, hb1⟩)
    | (go_at_call 7; (with_reducible refine (CK.out _).mono ?_); rintro e w' ⟨rfl, rfl⟩))
  have hb01 := below_step hb0 hb1
  have vn1 := (VN.out.below hb1).alloc (.cells #[.int .i64 k] 3)
  have vv1 := (VV.out.below hb1).alloc (.cells #[.int .i64 k] 3)
  have vk1 := Var.new w1 (.int .i64 k) 3
  have hb02 := hb01.trans ((Below.refl _ w1).alloc (by have := hb01.size; omega) (.cells #[.int .i64 k] 3))
  generalize w1.alloc (.cells #[.int .i64 k] 3) = w2 at vn1 vv1 vk1 hb02 ⊢
  have h2 := h.below hb02
  refine (CT.out _ _ _ _ h2 vk1 vn1 vv1).mono ?_
  rintro e w3 ⟨rfl, hb3⟩
  have vn3 := vn1.below hb3
  have vv3 := vv1.below hb3
  have vk3 := vk1.below hb3
  have hb03 := below_step hb02 hb3
  clear VN VV vn1 vv1 vk1 hb01 hb02 hb1 hb3 h0 hb0 h2
  have d1 := Under.cell vk3.cell
  have d2 := Under.cell vn3.cell
  have d3 := Under.cell vv3.cell
  have cO : ∀ m : Under w3, Calls Tryd.prog 12 #[.int .i64 (k : Nat), .int .i64 n] m.W fun e w' => e = .returned (.int .i64 (N : Nat)) ∧ m.W = w' := fun m => CO.out m.W
  have VN := Lib.hid vn3
  have VV := Lib.hid vv3
  clear vn3 vv3 vk3
  go_wp2
  refine wp_region_under (by kernel_rfl) (by kernel_rfl) ?_
  repeat (quiet_step ((go_at_call 12; (with_reducible refine under_same (cO _)))))
  refine wpQuiet_nil ?_
  intro w4 hw4
  obtain ⟨m, rfl⟩ := hw4
  have vn4 := VN.out.below m.below
  have vv4 := VV.out.below m.below
  have hb04 := below_step hb03 m.below
  generalize m.W = w4 at vn4 vv4 hb04 ⊢
  clear d1 d2 d3 cO VN VV hb03 m CO CT
  have h4 := h.below hb04
  have c4 := vn4.cell
  have VN := Lib.hid vn4
  have VV := Lib.hid vv4
  have HM := Lib.hid (fun w (h : ErrsOk names a w) => num_err a M hM w h)
  clear vn4 vv4
  go_wp2_with (first
    | (go_at_call 13; (with_reducible refine (try_nil a _ h4).mono ?_); rintro e w7 ⟨rfl, hb7⟩; have h7 := h4.below hb7; have hb47 := below_step (Below.refl _ _) hb7; have vn7 := VN.out.below hb47; have vv7 := VV.out.below hb47)
    | (go_at_call 13; (with_reducible refine (CU.out _ _ _ h7 vn7 vv7).mono ?_); rintro e w8 ⟨rfl, hb8⟩; have vn8 := vn7.below hb8; have vv8 := vv7.below hb8))
  have hb48 := below_step hb47 hb8
  have hb08 := below_step hb04 hb48
  have h8 := h.below hb08
  have d2 := Under.cell vn8.cell
  have d3 := Under.cell vv8.cell
  have cE : ∀ m : Under w8, Calls Tryd.prog 15 #[.int .i64 n] m.W fun e w' => e = .returned (errAt a M) ∧ Below m.W.heap.size m.W w' := fun m => CE.out m.W (h8.below m.below)
  have cM : ∀ m : Under w8, Calls Tryd.prog 11 #[errAt a M] m.W fun e w' => e = .returned (.int .i64 (M : Nat)) ∧ Below m.W.heap.size m.W w' := fun m => HM.out m.W (h8.below m.below)
  refine wp_region_under (by kernel_rfl) (by kernel_rfl) ?_
  repeat (quiet_step ((first
    | (go_at_call 15; (with_reducible refine under_call (cE _)))
    | (go_at_call 11; (with_reducible refine under_call (cM _))))))
  refine wpQuiet_nil ?_
  intro w9 hw9
  obtain ⟨m, rfl⟩ := hw9
  have hb09 := below_step hb08 m.below
  have h9 := h8.below m.below
  generalize m.W = w9 at hb09 h9 ⊢
  have HN := Lib.hid (fun w (h : ErrsOk names a w) => num_err a N hN w h)
  clear d2 d3 cE cM vn8 vv8 vn7 vv7 VN VV CE CU CK hb48 hb47
  go_wp2_with (first
    | (go_at_call 11; (with_reducible refine (HN.out _ h9).mono ?_); rintro e w10 ⟨rfl, hb10⟩; have h10 := h9.below hb10)
    | (go_at_call 11; (with_reducible refine (num_empty a _ h10).mono ?_); rintro e w11 ⟨rfl, hb11⟩; have h11 := h10.below hb11)
    | (go_at_call 11; (with_reducible refine (HM.out _ h11).mono ?_); rintro e w12 ⟨rfl, hb12⟩))
  go_ret
  exact ⟨rfl, below_step (below_step (below_step hb09 hb10) hb11) hb12⟩
theorem bothN_le (k : Nat) (n : Int) : bothN (actN k n) (actN 1 n) ≤ 16 := by
  have h1 := actN_le k n
  have h2 := actN_le 1 n
  unfold bothN; split <;> omega
theorem beq_true {N : Nat} (h : N = 0) : ((N : Int) == 0) = true := by simp [h]
theorem beq_false {N : Nat} (h : ¬ N = 0) : ((N : Int) == 0) = false := by simp [h]
theorem tries_any (x n v : Int) (w : World) (a : String → Addr) (h : ErrsOk names a w) : Calls Tryd.prog 4 #[.int .i64 x, .int .i64 n, .int .i64 v] w fun e w' => e = .returned (.bool true) ∧ Below w.heap.size w w' := by
  have hk := kindN_lt x
  have cK := fun w => kinds_any x w
  generalize kindN x = k at hk cK
  have cO := fun w => of_any k hk n w
  have cE := fun w h => err_any a n w h
  have cT : ∀ (w : World) (bk bn bv : Nat), ErrsOk names a w → Var bk (.int .i64 (k : Nat)) w → Var bn (.int .i64 n) w → Var bv (.int .i64 v) w → Calls Tryd.prog 13 #[.func (.func 14) #[] #[.pointer (some ⟨bk, 0, none⟩), .pointer (some ⟨bn, 0, none⟩), .pointer (some ⟨bv, 0, none⟩)]] w fun e w' => e = .returned (.tuple #[.int .i64 (valN (bothN (actN k n) (actN 1 n)) v), errAt a (bothN (actN k n) (actN 1 n))]) ∧ Below w.heap.size w w' := fun w bk bn bv hE h1 h2 h3 =>
    try_any a _ _ _ _ (fn14 _) w hE fun wx hb => tries_1 a bk bn bv k hk n v wx (hE.below hb) (h1.below hb) (h2.below hb) (h3.below hb)
  have cU : ∀ (w : World) (bv bn : Nat), ErrsOk names a w → Var bn (.int .i64 n) w → Var bv (.int .i64 v) w → Calls Tryd.prog 13 #[.func (.func 16) #[] #[.pointer (some ⟨bv, 0, none⟩), .pointer (some ⟨bn, 0, none⟩)]] w fun e w' => e = .returned (.tuple #[.int .i64 (valN (actN 1 n) v), errAt a (actN 1 n)]) ∧ Below w.heap.size w w' := fun w bv bn hE h2 h3 =>
    try_any a _ _ _ _ (fn16 _) w hE fun wx hb => tries_2 a bv bn n v wx (hE.below hb) (h2.below hb) (h3.below hb)
  have hN := actN_le k n
  have hM := actN_le 1 n
  generalize actN k n = N at cO cT hN
  generalize actN 1 n = M at cE cT cU hM
  by_cases n0 : N = 0 <;> by_cases m0 : M = 0
  · rw [show bothN N M = M by simp [bothN, n0], show valN M v = v by simp [valN, m0]] at cT
    rw [show valN M v = v by simp [valN, m0]] at cU
    exact tries_tt x n v w a h k hk N M hN hM (beq_true n0) (beq_true m0) cK cO cE cT cU
  · rw [show bothN N M = M by simp [bothN, n0], show valN M v = 0 by simp [valN, m0]] at cT
    rw [show valN M v = 0 by simp [valN, m0]] at cU
    exact tries_tf x n v w a h k hk N M hN hM (beq_true n0) (beq_false m0) cK cO cE cT cU
  · rw [show bothN N M = N by simp [bothN, n0], show valN N v = 0 by simp [valN, n0]] at cT
    rw [show valN M v = v by simp [valN, m0]] at cU
    exact tries_ft x n v w a h k hk N M hN hM (beq_false n0) (beq_true m0) cK cO cE cT cU
  · rw [show bothN N M = N by simp [bothN, n0], show valN N v = 0 by simp [valN, n0]] at cT
    rw [show valN M v = 0 by simp [valN, m0]] at cU
    exact tries_ff x n v w a h k hk N M hN hM (beq_false n0) (beq_false m0) cK cO cE cT cU
end Go.Proofs.YtpjnilefbbjcgaaDoor.trap
