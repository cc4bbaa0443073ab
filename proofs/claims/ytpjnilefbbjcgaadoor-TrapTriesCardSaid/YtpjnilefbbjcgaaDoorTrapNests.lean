/- trap: TrapNests. -/
import Derived.Test.YtpjnilefbbjcgaaDoorTrapLaws
import Derived.Laws.IdiomCopy
import Derived.Great.BuildSlice
namespace Go.Proofs.YtpjnilefbbjcgaaDoor.trap
open Go.RowKit errs under
set_option linter.unusedSimpArgs false
set_option linter.unusedVariables false

theorem errAt_one (a : String → Addr) (N : Nat) : (errAt a N).oneCell' = true := by cases N <;> rfl
/-- a store of a value of one cell, whatever its form, into a variable -/
theorem wpList_store_cell {P : Program} {ops : Array Oper} {rest : List Oper} {o : Oper} {a : Act} {w : World} {Q : Exit → Act → World → Prop} (hgd : o.guard = none) (ty : TypeId) (x y : Operand) (ho : o.op = .store ty x y)
    (b : Nat) (hx : a.eval x = .pointer (some ⟨b, 0, none⟩)) (h1 : (a.eval y).oneCell' = true) (u : Value) (hc : w.cell? ⟨b, 0, none⟩ = some u) (hf : w.frozen? ⟨b, 0, none⟩ = false) (hi : (P.info? ty).map (·.size) = some 1)
    (h : wpList P ops Q rest (a.put o.dst undef) (w.setCell ⟨b, 0, none⟩ (a.eval y))) : wpList P ops Q (o :: rest) a w :=
  wpList_plain hgd fun _ hK => by
    have hv : (storeVar ty ⟨b, 0, none⟩ (a.eval y)).run P w = .ok () (w.setCell ⟨b, 0, none⟩ (a.eval y)) := by
      have ht := run_storeCells_cells (P := P) b 0 [a.eval y] 0 w (fun j hj => by simp at hj; subst hj; simp [hc]) (fun j hj => by simp at hj; subst hj; simp [hf]) (fun z hz => by simp at hz; subst hz; exact h1)
      have hcs : (a.eval y).cells = #[a.eval y] := by revert h1; cases a.eval y <;> intro h1 <;> first | rfl | cases h1
      cases hq : P.info? ty with
      | none => simp [hq] at hi
      | some i =>
        have hs : i.size = 1 := by simpa [hq] using hi
        simp only [World.setCells] at ht
        simp [storeVar, sizeOf, typeInfo, hq, hcs, hs, ht]
    unfold Oper.wp execOp
    simp only [ho, hx, Instr.storeAt, Instr.sureAddr, Sem.run_bind, Sem.run_pure, Result.andThen_ok, hv]
    exact hK _ _ h
set_option maxHeartbeats 1600000 in
theorem nests_1 (a : String → Addr) (bk bn bi be bb k1 k2 : Nat) (hk1 : k1 < 11) (hk2 : k2 < 11) (n : Int) (vi vb : Value) (w : World)
    (v1 : Var bk (.int .i64 (k1 : Nat)) w) (v2 : Var bn (.int .i64 n) w) (v3 : Var bi vi w) (v4 : Var be vb w) (v5 : Var bb (.int .i64 (k2 : Nat)) w) (n34 : bi ≠ be) (n23 : bn ≠ bi) (n24 : bn ≠ be) (n53 : bb ≠ bi) (n54 : bb ≠ be)
    (hE : ∀ wx, Past [bi, be] w wx → ErrsOk names a wx) :
    Calls Tryd.prog 18 #[.pointer (some ⟨bk, 0, none⟩), .pointer (some ⟨bn, 0, none⟩), .pointer (some ⟨bi, 0, none⟩), .pointer (some ⟨be, 0, none⟩), .pointer (some ⟨bb, 0, none⟩)] w fun e w' =>
      Ends a (actN k2 n) e ∧ Past [bi, be] w w' ∧ (Var bi (errAt a (actN k1 n)) w' ∧ Var be (.bool true) w') := by
  have hmf := mf
  have h := hE w (Past.refl _ _)
  have c19 := catch_plain a (actN k1 n) _ _ (fn19 #[.pointer (some ⟨bk, 0, none⟩), .pointer (some ⟨bn, 0, none⟩)]) w h fun wx hb => nests_11 a bk bn k1 hk1 n wx (h.below hb) (v1.below hb) (v2.below hb)
  have HA := Lib.hid (fun (b : Nat) (W : World) => act_any a k2 hk2 n b W)
  generalize actN k1 n = N1 at c19 ⊢
  generalize actN k2 n = N2 at HA ⊢
  go_enter Tryd.func18, Tryd.ntmps18
  go_wp2_with (fail)
  refine c19.mono ?_
  rintro e w1 ⟨rfl, hb1⟩
  have u3 := v3.below hb1
  have u4 := v4.below hb1
  have x3 := (u3.set (errAt a N1)).store (u := .bool true) n34
  have x4 := (u4.store (u := errAt a N1) n34.symm).set (.bool true)
  have x2 := ((v2.below hb1).store (u := errAt a N1) n23).store (u := .bool true) n24
  have x5 := ((v5.below hb1).store (u := errAt a N1) n53).store (u := .bool true) n54
  have hp : Past [bi, be] w ((w1.setCell ⟨bi, 0, none⟩ (errAt a N1)).setCell ⟨be, 0, none⟩ (.bool true)) := ((Past.of hb1).store (.inl (by simp)) _).store (.inl (by simp)) _
  have hz : ((w1.setCell ⟨bi, 0, none⟩ (errAt a N1)).setCell ⟨be, 0, none⟩ (.bool true)).heap.size = w1.heap.size := by simp [World.setCell]
  have hA := HA.out _ _ (act_in ((w1.setCell ⟨bi, 0, none⟩ (errAt a N1)).setCell ⟨be, 0, none⟩ (.bool true))) ((hE _ hp).below ((Below.refl _ _).alloc (Nat.le_refl _) _))
  rw [hz] at hA
  have HX := Lib.hid hA
  have c3 := u3.cell
  have f3 := u3.frozen
  have c4 := (u4.store (u := errAt a N1) n34.symm).cell
  have f4 := (u4.store (u := errAt a N1) n34.symm).frozen
  have c2 := x2.cell
  have c5 := x5.cell
  have X3 := Lib.hid x3
  have X4 := Lib.hid x4
  have HP := Lib.hid hp
  have HE := Lib.hid hE
  clear hA x3 x4 x2 x5 u3 u4 hp hz hE HA c19 v1 v2 v3 v4 v5 hb1 n34 n23 n24 n53 n54 h
  go_wp2_with (first
    | (refine wpList_store_cell (by rfl) 25 _ _ (by rfl) bi (by rfl) (by exact errAt_one a N1) _ c3 f3 (by kernel_rfl) ?_)
    | (go_at_call 10; refine HX.out.mono ?_; rintro e w' ⟨he, hb⟩; have hb2 := below_new hb; have hp2 := HP.out.trans (Past.of hb2); have y3 := X3.out.below hb2; have y4 := X4.out.below hb2; rcases he with ⟨rfl, rfl⟩ | ⟨j, hj, rfl, rfl⟩ | ⟨rfl, T, u, hT, rfl⟩))
  · go_end0
    exact ⟨.back, hp2, y3, y4⟩
  · exact ⟨rfl, .raised _ (by assumption), hp2, y3, y4⟩
  · exact ⟨rfl, .other _ _ (by assumption), hp2, y3, y4⟩
theorem nests_c (a : String → Addr) (bk bn bi be bb k1 k2 : Nat) (hk1 : k1 < 11) (hk2 : k2 < 11) (n : Int) (vi vb : Value) (w : World)
    (v1 : Var bk (.int .i64 (k1 : Nat)) w) (v2 : Var bn (.int .i64 n) w) (v3 : Var bi vi w) (v4 : Var be vb w) (v5 : Var bb (.int .i64 (k2 : Nat)) w) (n34 : bi ≠ be) (n23 : bn ≠ bi) (n24 : bn ≠ be) (n53 : bb ≠ bi) (n54 : bb ≠ be)
    (hE : ∀ wx, Past [bi, be] w wx → ErrsOk names a wx) :
    Calls Tryd.prog 8 #[.func (.func 18) #[] #[.pointer (some ⟨bk, 0, none⟩), .pointer (some ⟨bn, 0, none⟩), .pointer (some ⟨bi, 0, none⟩), .pointer (some ⟨be, 0, none⟩), .pointer (some ⟨bb, 0, none⟩)]] w fun e w' =>
      e = .returned (errAt a (actN k2 n)) ∧ Past [bi, be] w w' ∧ (Var bi (errAt a (actN k1 n)) w' ∧ Var be (.bool true) w') := by
  have hb : Below w.heap.size w ((w.alloc (.cells #[.nilIface] 25)).alloc (.cells #[.bool false] 4)) := ((Below.refl _ w).alloc (Nat.le_refl _) _).alloc (by simp) _
  have hp : Past [bi, be] w ((w.alloc (.cells #[.nilIface] 25)).alloc (.cells #[.bool false] 4)) := Past.of hb
  have l3 := v3.lt
  have l4 := v4.lt
  exact catch_any a _ _ _ (fn18 _) [bi, be] (fun W => Var bi (errAt a (actN k1 n)) W ∧ Var be (.bool true) W) w (by simp; exact ⟨l3, l4⟩) hE (fun w1 w2 h he => ⟨h.1.of_block (he bi l3), h.2.of_block (he be l4)⟩)
    (nests_1 a bk bn bi be bb k1 k2 hk1 hk2 n vi vb _ (v1.below hb) (v2.below hb) (v3.below hb) (v4.below hb) (v5.below hb) n34 n23 n24 n53 n54 fun wx hx => hE wx (hp.trans hx))
set_option maxHeartbeats 1600000 in
theorem nests_any (x y n : Int) (w : World) (a : String → Addr) (h : ErrsOk names a w) : Calls Tryd.prog 5 #[.int .i64 x, .int .i64 y, .int .i64 n] w fun e w' => e = .returned (.bool true) ∧ Below w.heap.size w w' := by
  have hmf := mf
  have hb0 : Below w.heap.size w (w.alloc (.cells #[.int .i64 n] 3)) := (Below.refl _ w).alloc (Nat.le_refl _) _
  have h0 := h.below hb0
  have HV := Lib.hid (Var.new w (.int .i64 n) 3)
  have hk := kindN_lt x
  have HK := Lib.hid (fun w => kinds_any x w)
  generalize kindN x = k1 at hk HK
  have HK' := Lib.hid hk
  have hl := kindN_lt y
  have HL := Lib.hid (fun w => kinds_any y w)
  generalize kindN y = k2 at hl HL
  have HL' := Lib.hid hl
  clear hk hl
  go_enter Tryd.func5, Tryd.ntmps5
  go_wp2_with (first
    | (go_at_call 6; refine (alive_any a _ h0).mono ?_; rintro e w1 ⟨rfl, hb1⟩)
    | (go_at_call 7; (with_reducible refine (HK.out _).mono ?_); rintro e w' ⟨rfl, rfl⟩)
    | (go_at_call 7; (with_reducible refine (HL.out _).mono ?_); rintro e w' ⟨rfl, rfl⟩))
  have hb01 := below_step hb0 hb1
  have hlt := HV.out.lt
  have hz1 := hb1.size
  have e1 : (w1.alloc (.cells #[.int .i64 k1] 3)).heap.size = w1.heap.size + 1 := World.size_alloc _ _
  have e2 : ((w1.alloc (.cells #[.int .i64 k1] 3)).alloc (.cells #[.int .i64 k2] 3)).heap.size = w1.heap.size + 1 + 1 := by rw [World.size_alloc, e1]
  have e3 : (((w1.alloc (.cells #[.int .i64 k1] 3)).alloc (.cells #[.int .i64 k2] 3)).alloc (.cells #[.nilIface] 25)).heap.size = w1.heap.size + 1 + 1 + 1 := by rw [World.size_alloc, e2]
  have e4 : ((((w1.alloc (.cells #[.int .i64 k1] 3)).alloc (.cells #[.int .i64 k2] 3)).alloc (.cells #[.nilIface] 25)).alloc (.cells #[.bool false] 4)).heap.size = w1.heap.size + 4 := by rw [World.size_alloc, e3]
  have vn := ((((HV.out.below hb1).alloc (.cells #[.int .i64 k1] 3)).alloc (.cells #[.int .i64 k2] 3)).alloc (.cells #[.nilIface] 25)).alloc (.cells #[.bool false] 4)
  have vk := (((Var.new w1 (.int .i64 k1) 3).alloc (.cells #[.int .i64 k2] 3)).alloc (.cells #[.nilIface] 25)).alloc (.cells #[.bool false] 4)
  have vb := ((Var.new (w1.alloc (.cells #[.int .i64 k1] 3)) (.int .i64 k2) 3).alloc (.cells #[.nilIface] 25)).alloc (.cells #[.bool false] 4)
  rw [e1] at vb
  have vi := (Var.new ((w1.alloc (.cells #[.int .i64 k1] 3)).alloc (.cells #[.int .i64 k2] 3)) .nilIface 25).alloc (.cells #[.bool false] 4)
  rw [e2] at vi
  have ve := Var.new (((w1.alloc (.cells #[.int .i64 k1] 3)).alloc (.cells #[.int .i64 k2] 3)).alloc (.cells #[.nilIface] 25)) (.bool false) 4
  rw [e3] at ve
  have hb15 : Below w1.heap.size w1 ((((w1.alloc (.cells #[.int .i64 k1] 3)).alloc (.cells #[.int .i64 k2] 3)).alloc (.cells #[.nilIface] 25)).alloc (.cells #[.bool false] 4)) := ((((Below.refl _ w1).alloc (Nat.le_refl _) _).alloc (by omega) _).alloc (by omega) _).alloc (by omega) _
  have h1 := h0.below hb1
  clear e1 e2 e3
  generalize (((w1.alloc (.cells #[.int .i64 k1] 3)).alloc (.cells #[.int .i64 k2] 3)).alloc (.cells #[.nilIface] 25)).alloc (.cells #[.bool false] 4) = w5 at vn vk vb vi ve hb15 e4 ⊢
  have hP : ∀ wx, Past [w1.heap.size + 1 + 1, w1.heap.size + 1 + 1 + 1] w5 wx → Below w1.heap.size w1 wx := fun wx hx => hb15.trans (hx.below (by omega) (by simp; omega))
  have cc := nests_c a w1.heap.size w.heap.size (w1.heap.size + 1 + 1) (w1.heap.size + 1 + 1 + 1) (w1.heap.size + 1) k1 k2 HK'.out HL'.out n _ _ w5 vk vn vi ve vb (by omega) (by omega) (by omega) (by omega) (by omega) fun wx hx => h1.below (hP wx hx)
  refine cc.mono ?_
  rintro e w6 ⟨rfl, hp6, vi6, ve6⟩
  have hb6 := below_step hb01 (hP w6 hp6)
  have h6 := h.below hb6
  have vk6 := vk.past hp6 (by simp; omega)
  have vb6 := vb.past hp6 (by simp)
  have vn6 := vn.past hp6 (by simp; omega)
  have c20 := catch_plain a (actN k1 n) _ _ (fn20 #[.pointer (some ⟨w1.heap.size, 0, none⟩), .pointer (some ⟨w.heap.size, 0, none⟩)]) w6 h6 fun wx hb => nests_2 a _ _ k1 HK'.out n wx (h6.below hb) (vk6.below hb) (vn6.below hb)
  have c21 : ∀ w7, Below w6.heap.size w6 w7 → Calls Tryd.prog 8 #[.func (.func 21) #[] #[.pointer (some ⟨w1.heap.size + 1, 0, none⟩), .pointer (some ⟨w.heap.size, 0, none⟩)]] w7 fun e w' => e = .returned (errAt a (actN k2 n)) ∧ Below w7.heap.size w7 w' := fun w7 hb7 =>
    catch_plain a (actN k2 n) _ _ (fn21 #[.pointer (some ⟨w1.heap.size + 1, 0, none⟩), .pointer (some ⟨w.heap.size, 0, none⟩)]) w7 (h6.below hb7) fun wx hb => nests_3 a _ _ k2 HL'.out n wx ((h6.below hb7).below hb) ((vb6.below hb7).below hb) ((vn6.below hb7).below hb)
  have hN1 := actN_le k1 n
  have hN2 := actN_le k2 n
  generalize actN k1 n = N1 at c20 hN1 vi6
  generalize actN k2 n = N2 at c21 hN2 ⊢
  have C20 := Lib.hid c20
  have C21 := Lib.hid c21
  have VI := Lib.hid vi6
  have VE := Lib.hid ve6
  have M1 := Lib.hid (fun w (h : ErrsOk names a w) => num_err a N1 hN1 w h)
  have M2 := Lib.hid (fun w (h : ErrsOk names a w) => num_err a N2 hN2 w h)
  clear cc hP vn vk vb vi ve hb15 e4 hb01 hb1 h1 hp6 HV c20 c21 hN1 hN2 vi6 ve6 vk6 vb6 vn6 HK HL HK' HL' hz1 hlt h0 hb0
  go_wp2_with (first
    | (go_at_call 8; (with_reducible refine C20.out.mono ?_); rintro e w7 ⟨rfl, hb7⟩)
    | (go_at_call 8; (with_reducible refine (C21.out _ hb7).mono ?_); rintro e w8 ⟨rfl, hb8⟩; have hb68 := below_step hb7 hb8; have vi8 := (VI.out.below hb68).cell; have ve8 := (VE.out.below hb68).cell; have h8 := h6.below hb68)
    | (go_at_call 11; (with_reducible refine (M1.out _ h8).mono ?_); rintro e w9 ⟨rfl, hb9⟩; have h9 := h8.below hb9)
    | (go_at_call 11; (with_reducible refine (M1.out _ h9).mono ?_); rintro e w10 ⟨rfl, hb10⟩; have h10 := h9.below hb10)
    | (go_at_call 11; (with_reducible refine (M2.out _ h10).mono ?_); rintro e w11 ⟨rfl, hb11⟩; have h11 := h10.below hb11)
    | (go_at_call 11; (with_reducible refine (M2.out _ h11).mono ?_); rintro e w12 ⟨rfl, hb12⟩))
  go_ret
  exact ⟨rfl, below_step hb6 (below_step hb68 (below_step hb9 (below_step hb10 (below_step hb11 hb12))))⟩
end Go.Proofs.YtpjnilefbbjcgaaDoor.trap
