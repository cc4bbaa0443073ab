/- Copy: where a copyist lies, and what its calls do: the real one. -/
import Derived.Test.YtmbdfoobnkanlaaDoorDirBoth
import Derived.Test.YtmbdfoobnkanlaaDoorTrapM
namespace Go.Proofs.YtmbdfoobnkanlaaDoor.copyist
open Go.ChangeShapes Go.WideShapes Go.ChangeAt Go.RowKit split trap errs dir meter
set_option linter.unusedSimpArgs false
set_option linter.unusedVariables false

/-! ### numbers -/
theorem two_le4 (d : Nat) (hd : d ≤ 4) : 2 ^ d ≤ 16 := Nat.pow_le_pow_right (by decide) hd
theorem two_next (d : Nat) : 2 ^ (d + 1) = 2 * 2 ^ d := by rw [Nat.pow_succ]; omega
/-- what is copied: the entries 2 i and 2 i + 1 of the new one are the old one's entry i -/
def Inv (f g : Nat → Nat) (k : Nat) : Prop := ∀ j, j < 2 * k → g j = f (j / 2)
theorem Inv.zero (f g : Nat → Nat) : Inv f g 0 := fun j hj => by omega
theorem Inv.step {f g : Nat → Nat} {k : Nat} (h : Inv f g k) : Inv f (setF g (2 * k) (2 * k + 2) (f k)) (k + 1) := fun j hj => by
  unfold setF
  by_cases hin : 2 * k ≤ j ∧ j < 2 * k + 2
  · rw [if_pos hin, show j / 2 = k by omega]
  · rw [if_neg hin]; exact h j (by omega)
theorem Inv.set {f g : Nat → Nat} {k : Nat} (h : Inv f g k) (x y n : Nat) : Inv (setF f x y n) (setF g (2 * x) (2 * min y k) n) k := fun j hj => by
  unfold setF
  by_cases hin : x ≤ j / 2 ∧ j / 2 < y
  · rw [if_pos hin, if_pos (by omega)]
  · rw [if_neg hin, if_neg (by omega)]; exact h j hj
theorem setF_more (g : Nat → Nat) (a b c n : Nat) (h1 : a ≤ b) (h2 : b ≤ c) : setF (setF g a b n) b c n = setF g a c n := by
  funext j; unfold setF
  by_cases h : b ≤ j ∧ j < c
  · rw [if_pos h, if_pos (by omega)]
  · rw [if_neg h]
    by_cases h' : a ≤ j ∧ j < b
    · rw [if_pos h', if_pos (by omega)]
    · rw [if_neg h', if_neg (by omega)]
theorem setF_empty (g : Nat → Nat) (a b n : Nat) (h : b ≤ a) : setF g a b n = g := by
  funext j; unfold setF; rw [if_neg (by omega)]
/-- the four errors that a copyist and its parts answer or raise -/
structure Er (a : String → Addr) (w : World) : Prop where
  r : w.cell? ⟨1, 0, none⟩ = some (errV (a "ambler/api.ErrRange"))
  n : w.cell? ⟨2, 0, none⟩ = some (errV (a "ambler/api.ErrNone"))
  s : w.cell? ⟨0, 0, none⟩ = some (errV (a "ambler/api.ErrState"))
  l : w.cell? ⟨10, 0, none⟩ = some (errV (a "ambler/api.ErrLimit"))
theorem Er.below {a : String → Addr} {w w' : World} (h : Er a w) (hb : Below w.heap.size w w') : Er a w' :=
  ⟨(hb.cell (World.block_lt_of_cell? w _ h.r)).trans h.r, (hb.cell (World.block_lt_of_cell? w _ h.n)).trans h.n, (hb.cell (World.block_lt_of_cell? w _ h.s)).trans h.s, (hb.cell (World.block_lt_of_cell? w _ h.l)).trans h.l⟩
theorem Er.of {a : String → Addr} {w : World} {ns : List String} (h : ErrsOk ns a w) (h1 : "ambler/api.ErrRange" ∈ ns) (h2 : "ambler/api.ErrNone" ∈ ns) (h3 : "ambler/api.ErrState" ∈ ns) (h4 : "ambler/api.ErrLimit" ∈ ns) : Er a w :=
  ⟨h.at gErrRange h1, h.at gErrNone h2, h.at gErrState h3, h.at gErrLimit h4⟩

/-! ### where a copyist lies -/
/-- the copyist's block C, the old directory's A, the new one's N; so many entries copied; taken -/
structure CAt (C A N d : Nat) (f g : Nat → Nat) (k : Nat) (t : Bool) (w : World) : Prop where
  d4 : d ≤ 4
  row : w.heap[C]? = some (.cells #[.pointer (some ⟨A, 0, none⟩), .pointer (some ⟨N, 0, none⟩), .int .i64 (k : Nat), .bool t] 73 (0, 0))
  a : DAt A d f w
  b : DAt N (d + 1) g w
  kd : k ≤ 2 ^ d
  ca : C ≠ A
  cn : C ≠ N
  an : A ≠ N
section
variable {C A N d k : Nat} {f g f' g' : Nat → Nat} {t : Bool} {w w' : World}
theorem CAt.lt (h : CAt C A N d f g k t w) : C < w.heap.size := (Array.getElem?_eq_some_iff.1 h.row).1
theorem CAt.below (h : CAt C A N d f g k t w) (hb : Below w.heap.size w w') : CAt C A N d f g k t w' :=
  ⟨h.d4, (hb.block C h.lt).trans h.row, h.a.below hb, h.b.below hb, h.kd, h.ca, h.cn, h.an⟩
theorem CAt.past {l : List Nat} (h : CAt C A N d f g k t w) (hb : Past l w w') (hC : C ∉ l) (hA : A ∉ l) (hN : N ∉ l) : CAt C A N d f g k t w' :=
  ⟨h.d4, (hb.block C h.lt hC).trans h.row, h.a.past hb hA, h.b.past hb hN, h.kd, h.ca, h.cn, h.an⟩
theorem CAt.drewN (h : CAt C A N d f g k t w) (q : Nat) : CAt C A N d f g k t (w.drewN q) := ⟨h.d4, h.row, h.a.drewN q, h.b.drewN q, h.kd, h.ca, h.cn, h.an⟩
theorem CAt.setA (h : CAt C A N d f g k t w) (hp : Past [A] w w') (hd : DAt A d f' w') : CAt C A N d f' g k t w' :=
  ⟨h.d4, (hp.block C h.lt (by simpa using h.ca)).trans h.row, hd, h.b.past hp (by simpa using h.an.symm), h.kd, h.ca, h.cn, h.an⟩
theorem CAt.setN (h : CAt C A N d f g k t w) (hp : Past [N] w w') (hd : DAt N (d + 1) g' w') : CAt C A N d f g' k t w' :=
  ⟨h.d4, (hp.block C h.lt (by simpa using h.cn)).trans h.row, h.a.past hp (by simpa using h.an), hd, h.kd, h.ca, h.cn, h.an⟩
theorem CAt.fz (h : CAt C A N d f g k t w) (i : Nat) : w.frozen? ⟨C, i, none⟩ = false := frozen_of_row _ _ i _ _ h.row
theorem CAt.c0 (h : CAt C A N d f g k t w) : w.cell? ⟨C, 0, none⟩ = some (.pointer (some ⟨A, 0, none⟩)) := by rw [cell_of_row _ _ _ _ _ _ h.row]; rfl
theorem CAt.c1 (h : CAt C A N d f g k t w) : w.cell? ⟨C, 1, none⟩ = some (.pointer (some ⟨N, 0, none⟩)) := by rw [cell_of_row _ _ _ _ _ _ h.row]; rfl
theorem CAt.c2 (h : CAt C A N d f g k t w) : w.cell? ⟨C, 2, none⟩ = some (.int .i64 (k : Nat)) := by rw [cell_of_row _ _ _ _ _ _ h.row]; rfl
theorem CAt.c3 (h : CAt C A N d f g k t w) : w.cell? ⟨C, 3, none⟩ = some (.bool t) := by rw [cell_of_row _ _ _ _ _ _ h.row]; rfl
theorem CAt.more (h : CAt C A N d f g k t w) (hk : k < 2 ^ d) : CAt C A N d f g (k + 1) t (w.setCell ⟨C, 2, none⟩ (.int .i64 ((k + 1 : Nat) : Int))) := by
  have hp : Past [C] w (w.setCell ⟨C, 2, none⟩ (.int .i64 ((k + 1 : Nat) : Int))) := (Past.refl [C] w).store (.inl (by simp)) _
  exact ⟨h.d4, heap_setCell_same w C 2 _ _ _ h.row, h.a.past hp (by simpa using h.ca.symm), h.b.past hp (by simpa using h.cn.symm), hk, h.ca, h.cn, h.an⟩
theorem CAt.take (h : CAt C A N d f g k t w) : CAt C A N d f g k true (w.setCell ⟨C, 3, none⟩ (.bool true)) := by
  have hp : Past [C] w (w.setCell ⟨C, 3, none⟩ (.bool true)) := (Past.refl [C] w).store (.inl (by simp)) _
  exact ⟨h.d4, heap_setCell_same w C 3 _ _ _ h.row, h.a.past hp (by simpa using h.ca.symm), h.b.past hp (by simpa using h.cn.symm), h.kd, h.ca, h.cn, h.an⟩
end

/-! ### its calls -/
theorem dir_some (x : Addr) (w : World) : (Op.equalIn 10000 43 (.pointer (some x)) (.pointer none)).run Tryd.prog w = .ok false w := by
  have szD : (Tryd.prog.info? 82).map (·.size) = some 33 := by kernel_rfl
  obtain ⟨j, hj, _⟩ := Option.map_eq_some_iff.1 szD
  have h : ∀ d : Nat, (Op.equalIn (d + 1) 43 (.pointer (some x)) (.pointer none)).run Tryd.prog w = .ok false w := fun d => by
    simp [Op.equalIn, run_underlying Tryd.underlying43, sizeOf, typeInfo, hj, sameAddr]
  exact h 9999
theorem sub_16 {n k : Nat} (hk : k ≤ n) (hn : n ≤ 32) : IntKind.i64.wrap ((n : Int) - (k : Int)) = ((n - k : Nat) : Int) := by rw [IntWalk.i64_in _ (by omega)]; omega
set_option maxRecDepth 20000 in
theorem left_any (C A N d k : Nat) (f g : Nat → Nat) (t : Bool) (w : World) (h : CAt C A N d f g k t w) :
    Calls Tryd.prog 17 #[.pointer (some ⟨C, 0, none⟩)] w fun e w' => e = .returned (.int .i64 ((2 ^ d - k : Nat) : Int)) ∧ ∃ q, w' = w.drewN q := by
  have h0 := h.c0
  have h2 := h.c2
  have c1 := fun q => len_any A d f (w.drewN q) (h.a.drewN q)
  have hk := h.kd
  have h16 := two_le4 d h.d4
  generalize 2 ^ d = n at c1 hk h16 ⊢
  have e1 := sub_16 hk (by omega)
  clear h
  go_enter Tryd.func17, Tryd.ntmps17
  go_wp2_with fail
  go_quiet ((go_at_call 19; exact quiet_same (c1 _)))
  go_wp2
  go_ret
  exact ⟨rfl, _, rfl⟩
theorem at_any (C A N d k : Nat) (f g : Nat → Nat) (t : Bool) (w : World) (h : CAt C A N d f g k t w) (n : Nat) (hn : n < 18446744073709551616) :
    Calls Tryd.prog 21 #[.pointer (some ⟨C, 0, none⟩), .int .u64 n] w fun e w' => e = .returned (.int .i64 (f (n / 2 ^ (64 - d)) : Nat)) ∧ ∃ q, w' = w.drewN q := by
  have h0 := h.c0
  have c1 := fun q => dir.at_any A d f (w.drewN q) (h.a.drewN q) n hn
  generalize f (n / 2 ^ (64 - d)) = v at c1 ⊢
  clear h
  go_enter Tryd.func21, Tryd.ntmps21
  go_wp2_with (go_at_call 20; refine (c1 0).mono ?_; rintro e w' ⟨rfl, q, rfl⟩)
  go_ret
  exact ⟨rfl, _, rfl⟩
set_option maxRecDepth 20000 in
theorem double_any (C A N d k : Nat) (f g : Nat → Nat) (t : Bool) (w : World) (h : CAt C A N d f g k t w) (i n : Nat) (hi : i < 2 ^ d) :
    Calls Tryd.prog 31 #[.pointer (some ⟨C, 0, none⟩), .int .i64 i, .int .i64 n] w fun e w' => e = .returned (.int .i64 2) ∧ Past [N] w w' ∧ DAt N (d + 1) (setF g (2 * i) (2 * i + 2) n) w' := by
  have h16 := two_le4 d h.d4
  have h1 := h.c1
  have y1 : ∀ W, Past [N] w W → W.cell? ⟨C, 1, none⟩ = some (.pointer (some ⟨N, 0, none⟩)) := fun W hp => (hp.cell h1 (by simpa using h.cn))
  have c1 := put_yes N (d + 1) g w h.b (2 * i) n (by rw [two_next]; omega)
  have c2 := fun W (hW : DAt N (d + 1) (setF g (2 * i) (2 * i + 1) n) W) => put_yes N (d + 1) _ W hW (2 * i + 1) n (by rw [two_next]; omega)
  have hs := setF_more g (2 * i) (2 * i + 1) (2 * i + 2) n (by omega) (by omega)
  rw [show 2 * i + 1 + 1 = 2 * i + 2 by omega, hs] at c2
  generalize setF g (2 * i) (2 * i + 2) n = g2 at c2 ⊢
  generalize setF g (2 * i) (2 * i + 1) n = g1 at c1 c2
  have e0 : ((2 * i : Nat) : Int) = 2 * (i : Int) := by omega
  have e1 : ((2 * i + 1 : Nat) : Int) = 2 * (i : Int) + 1 := by omega
  rw [e0] at c1
  rw [e1] at c2
  clear h hs
  have hi16 : i < 16 := by omega
  clear hi
  go_enter Tryd.func31, Tryd.ntmps31
  go_wp2
  refine wp_loop_rounds 3 ?_
  rw [rounds_succ]
  go_wp2_with (first
    | (go_at_call 23; refine c1.mono ?_; rintro e w1 ⟨rfl, hp1, hd1⟩; have z1 := y1 _ hp1)
    | (go_at_call 30; refine (dir.raise_nil _).mono ?_; rintro e w2 ⟨rfl, rfl⟩))
  rw [rounds_succ]
  go_wp2_with (first
    | (go_at_call 23; refine (c2 _ hd1).mono ?_; rintro e w3 ⟨rfl, hp3, hd3⟩)
    | (go_at_call 30; refine (dir.raise_nil _).mono ?_; rintro e w4 ⟨rfl, rfl⟩))
  rw [rounds_succ]
  go_wp2
  go_ret
  exact ⟨rfl, hp1.trans hp3, hd3⟩
set_option maxRecDepth 20000 in
theorem step_no (C A N d : Nat) (f g : Nat → Nat) (t : Bool) (w : World) (h : CAt C A N d f g (2 ^ d) t w) (v : Option Addr) :
    Calls Tryd.prog 15 #[.pointer (some ⟨C, 0, none⟩), .pointer v] w fun e w' => e = .returned (.bool false) ∧ ∃ q, w' = w.drewN q := by
  have c := left_any C A N d _ f g t w h
  rw [Nat.sub_self] at c
  go_enter Tryd.func15, Tryd.ntmps15
  go_wp2_with (go_at_call 17; refine c.mono ?_; rintro e w1 ⟨rfl, q, rfl⟩)
  go_ret
  exact ⟨rfl, _, rfl⟩
set_option maxRecDepth 20000 in
set_option maxHeartbeats 2000000 in
theorem step_yes (a : String → Addr) (C A N d k B : Nat) (f g : Nat → Nat) (t : Bool) (m : Mt) (hm : m.Ok) (h0 : m.unitE 1 = 0) (w : World) (h : CAt C A N d f g k t w) (hk : k < 2 ^ d) (hM : MAt B 0 m w) (hE : Er a w) (bc : B ≠ C) (ba : B ≠ A) (bn : B ≠ N) :
    Calls Tryd.prog 15 #[.pointer (some ⟨C, 0, none⟩), .pointer (some ⟨B, 0, none⟩)] w fun e w' => e = .returned (.bool true) ∧ Past [C, N, B] w w' ∧ CAt C A N d f (setF g (2 * k) (2 * k + 2) (f k)) (k + 1) t w' ∧ MAt B 0 (m.unit 1) w' := by
  have c1 := left_any C A N d k f g t w h
  have c2 := fun q => unit_any a B 0 m hm 1 (w.drewN q) (hM.drewN q) hE.l
  rw [h0] at c2
  have d1 : (((2 ^ d - k : Nat) : Int) == 0) = false := beq_eq_false_iff_ne.2 (by omega)
  have cE := fun W (hW : CAt C A N d f g k t W) => entry_yes A d f W hW.a k hk
  have cD := fun W (hW : CAt C A N d f g k t W) => double_any C A N d k f g t W hW k (f k) hk
  have h16 : k < 16 := Nat.lt_of_lt_of_le hk (two_le4 d h.d4)
  have H := Lib.hid h
  have HK := Lib.hid hk
  generalize 2 ^ d - k = l at c1 d1
  generalize m.unit 1 = m1 at c2 ⊢
  generalize f k = n at cE cD ⊢
  generalize setF g (2 * k) (2 * k + 2) n = g1 at cD ⊢
  clear h hk hM hE h0
  go_enter Tryd.func15, Tryd.ntmps15
  go_wp2_with (first
    | (go_at_call 17; refine c1.mono ?_; rintro e w1 ⟨rfl, q, rfl⟩)
    | (go_at_call 35; refine (c2 q).mono ?_; rintro e w2 ⟨he, hs2⟩; obtain rfl := ends_zero he; clear he))
  have p2 : Past [C, N, B] w w2 := ((Past.refl _ _).drewN q).trans (hs2.past.mono (fun b hb => by simp at hb ⊢; simp [hb]))
  have h2 := (H.out.drewN q).past hs2.past (by simpa using bc.symm) (by simpa using ba.symm) (by simpa using bn.symm)
  have m2 := hs2.at'
  clear hs2 c1 c2 d1 H
  have z0 := fun q => (h2.drewN q).c0
  have z2 := fun q => (h2.drewN q).c2
  have cE2 := fun q => cE _ (h2.drewN q)
  have H2 := Lib.hid (fun q => h2.drewN q)
  clear h2 cE
  refine tail.wp_region_tail_drew 17 (by kernel_rfl) (by kernel_rfl) ?_
  simp only [List.take_succ_cons, List.take_zero, List.drop_succ_cons, List.drop_zero]
  repeat (quiet_step ((first
    | (go_at_call 37; exact quiet_same (cE2 _))
    | (go_at_call 36; exact quiet_same (must_int _ _)))))
  refine wpQuiet_nil ?_
  intro w3 hw3
  obtain ⟨q3, rfl⟩ := hw3
  have h3 := H2.out q3
  have m3 := m2.drewN q3
  have p3 := p2.drewN q3
  clear z0 z2 cE2 H2 m2 p2
  generalize w2.drewN q3 = W3 at h3 m3 p3 ⊢
  go_wp2_with (go_at_call 31; refine (cD _ h3).mono ?_; rintro e w4 ⟨rfl, hp4, hd4⟩; have h4 := h3.setN hp4 hd4; have z4 := h4.c2; have y4 := h4.fz; have e1 : IntKind.i64.wrap ((k : Int) + 1) = ((k + 1 : Nat) : Int) := by rw [IntWalk.i64_in _ (by omega)]; omega)
  go_ret
  have hq := (Past.refl [C] w4).store (p := ⟨C, 2, none⟩) (.inl (by simp)) (.int .i64 ((k + 1 : Nat) : Int))
  refine ⟨rfl, ?_, h4.more HK.out, ?_⟩
  · exact (p3.trans (hp4.mono (fun b hb => by simp at hb ⊢; simp [hb]))).trans (hq.mono (fun b hb => by simp at hb ⊢; simp [hb]))
  · exact (m3.past hp4 (by simpa using bn)).past hq (by simpa using bc)
theorem set_bad (C A N d k : Nat) (f g : Nat → Nat) (t : Bool) (w : World) (h : CAt C A N d f g k t w) (p i n : Int) (hp : NoSpan d p i ∨ n < 0) (er : Addr) (hr : w.cell? ⟨1, 0, none⟩ = some (errV er)) :
    Calls Tryd.prog 8 #[.pointer (some ⟨C, 0, none⟩), .int .i64 p, .int .i64 i, .int .i64 n] w fun x w' => x = .returned (.tuple #[.int .i64 0, errV er]) ∧ ∃ q, w' = w.drewN q := by
  have h0 := h.c0
  have c1 : Calls Tryd.prog 28 #[.pointer (some ⟨A, 0, none⟩), .int .i64 p, .int .i64 i, .int .i64 n] w fun x w' => x = .returned (.tuple #[.int .i64 0, errV er]) ∧ ∃ q, w' = w.drewN q := by
    rcases span_cases d h.a.d5 p i with hs | ⟨q, e, rfl, rfl, he, hq⟩
    · exact dir.set_no A d f w h.a p i n hs er hr
    · rcases hp with hs | hn
      · exact dir.set_no A d f w h.a _ _ n hs er hr
      · exact dir.set_neg A d f w h.a q e he hq n hn _ hr
  clear h hp
  go_enter Tryd.func8, Tryd.ntmps8
  go_wp2_with (go_at_call 28; refine c1.mono ?_; rintro e w1 ⟨rfl, q1, rfl⟩)
  go_ret2
  exact ⟨rfl, _, rfl⟩
/-- the lesser of two -/
def mn2 (x y : Int) : Int := if y < x then y else x
theorem run_mn2 {P : Program} {w : World} (ts : Array TypeId) (t : TypeId) (k : IntKind) (x y : Int) :
    (Builtin.min_ ts t #[.int k x, .int k y]).run P w = .ok (.int k (mn2 x y)) w := by
  simp [Builtin.min_, Builtin.min2, mn2]
theorem mn2_nat (y k x : Nat) (hy : y ≤ 32) (hk : k ≤ 32) (hx : x ≤ 32) : IntKind.i64.wrap (mn2 (y : Int) (k : Int) - (x : Int)) = ((min y k : Nat) : Int) - (x : Int) := by
  rw [IntWalk.i64_in _ (by unfold mn2; split <;> omega)]
  unfold mn2; split <;> omega
/-- between two rounds of Set -/
structure SetIn (C A N d k : Nat) (f g : Nat → Nat) (x n j : Nat) (t : Bool) (w W : World) : Prop where
  c : CAt C A N d f (setF g (2 * x) (2 * (x + j)) n) k t W
  past : Past [A, N] w W
set_option maxRecDepth 20000 in
set_option maxHeartbeats 2000000 in
theorem set_yes (C A N d k : Nat) (f g : Nat → Nat) (t : Bool) (w : World) (h : CAt C A N d f g k t w) (p e n : Nat) (he : e ≤ d) (hp : p < 2 ^ e) :
    Calls Tryd.prog 8 #[.pointer (some ⟨C, 0, none⟩), .int .i64 p, .int .i64 e, .int .i64 n] w fun x w' => x = .returned (.tuple #[.int .i64 (to d p e - fr d p e + 2 * (min (to d p e) k - fr d p e) : Nat), .nilIface]) ∧ Past [A, N] w w' ∧ CAt C A N d (setF f (fr d p e) (to d p e) n) (setF g (2 * fr d p e) (2 * min (to d p e) k) n) k t w' := by
  have h0 := h.c0
  have c1 := dir.set_yes A d f w h.a p e n he hp
  have c2 := fun f W (hW : DAt A d f W) => span_yes A d f W hW p e he hp
  have c3 := fun f g W (hW : CAt C A N d f g k t W) i (hi : i < 2 ^ d) => double_any C A N d k f g t W hW i n hi
  have hlt := fr_lt d p e
  have hle := to_le d p e he hp
  have h16 := two_le4 d h.d4
  have hk := h.kd
  have H := Lib.hid h
  generalize hx : fr d p e = x at c1 c2 hlt ⊢
  generalize hy : to d p e = y at c1 c2 hlt hle ⊢
  generalize 2 ^ d = D at c3 hle h16 hk
  have hmin := fun (ts : Array TypeId) (ty : TypeId) (W : World) => run_mn2 (P := Tryd.prog) (w := W) ts ty .i64 (y : Int) (k : Int)
  have e1 := mn2_nat y k x (by omega) (by omega) (by omega)
  generalize mn2 (y : Int) (k : Int) = mn at hmin e1
  clear h hx hy
  go_enter Tryd.func8, Tryd.ntmps8
  go_wp2_with (first
    | (go_at_call 28; refine c1.mono ?_; rintro e w1 ⟨rfl, hp1, hd1⟩; have h1 := H.out.setA hp1 hd1; have z1 := h1.c0)
    | (go_at_call 29; refine (c2 _ _ h1.a).mono ?_; rintro e w2 ⟨rfl, q2, rfl⟩; have h2 := h1.drewN q2; have z2 := h2.c2)
    | (go_at_call 30; refine (dir.raise_nil _).mono ?_; rintro e w3 ⟨rfl, rfl⟩))
  have hp2 : Past [A, N] w (w1.drewN q2) := (hp1.mono (fun b hb => by simp at hb ⊢; simp [hb])).drewN q2
  have hI : SetIn C A N d k (setF f x y n) g x n 0 t w (w1.drewN q2) := ⟨by rw [setF_empty g (2 * x) (2 * (x + 0)) n (by omega)]; exact h2, hp2⟩
  have hE : setF g (2 * x) (2 * (x + (min y k - x))) n = setF g (2 * x) (2 * min y k) n := by
    by_cases hxm : x ≤ min y k
    · rw [show x + (min y k - x) = min y k by omega]
    · rw [setF_empty g _ _ n (by omega), setF_empty g _ _ n (by omega)]
  clear h2 hp1 hd1 hp2 z1 z2 h1 h0 c1 c2 hmin H
  try rw [e1]
  have hZ : ∀ j : Nat, decide ((j : Int) < ((min y k : Nat) : Int) - (x : Int)) = decide (j < min y k - x) := fun j => by
    by_cases hj : j < min y k - x
    · rw [decide_eq_true hj, decide_eq_true (by omega)]
    · rw [decide_eq_false hj, decide_eq_false (by omega)]
  have hmd : min y k ≤ 16 := by omega
  have hmy : x + (min y k - x) ≤ D ∨ min y k - x = 0 := by omega
  generalize ((min y k : Nat) : Int) - (x : Int) = Z at hZ ⊢
  generalize hl : min y k - x = l at hZ hmy hE ⊢
  have HE := Lib.hid hE
  clear hE
  generalize w1.drewN q2 = W2 at hI ⊢
  generalize hf : setF f x y n = f1 at hI ⊢
  have hyx : y - x ≤ 16 := by omega
  generalize hu : y - x = u at hyx ⊢
  have HL := Lib.hid hl
  have HF := Lib.hid hf
  have HU := Lib.hid hu
  clear hl hf hu
  have hx16 : x ≤ 16 := by omega
  go_loopw [50, 10] (fun i s W => ∃ j : Nat, j ≤ l ∧ i = .int .i64 j ∧ s = .int .i64 ((u + 2 * j : Nat) : Int) ∧ SetIn C A N d k f1 g x n j t w W) (fun i _ _ => l - (intOf i).toNat)
  case atStart => exact ⟨0, by omega, rfl, rfl, hI⟩
  case round =>
    obtain ⟨j, hj, rfl, rfl, hJ⟩ := hrel
    clear hI
    have hz := hZ j
    by_cases hlt : j < l
    · rw [decide_eq_true hlt] at hz
      have c4 := c3 _ _ _ hJ.c (x + j) (by omega)
      rw [setF_more g (2 * x) (2 * (x + j)) (2 * (x + j) + 2) n (by omega) (by omega)] at c4
      have e2 : ((x + j : Nat) : Int) = (x : Int) + (j : Int) := by omega
      have e3 : 2 * (x + j) + 2 = 2 * (x + (j + 1)) := by omega
      have e4 : ((u + 2 * j : Nat) : Int) + 2 = ((u + 2 * (j + 1) : Nat) : Int) := by omega
      have hr : u + 2 * (j + 1) ≤ 64 := by omega
      rw [e2, e3] at c4
      generalize hg1 : setF g (2 * x) (2 * (x + (j + 1))) n = g1 at c4
      have G1 := Lib.hid hg1
      have E4 := Lib.hid e4
      clear c3 HE e2 e3 e4 hZ e1 hg1
      have hxj : (x : Int) + (j : Int) ≤ 32 := by omega
      go_wp2_with (go_at_call 31; refine c4.mono ?_; rintro e w4 ⟨rfl, hp4, hd4⟩)
      go_roundw
      case rel => exact ⟨j + 1, by omega, by simp, by rw [← E4.out]; simp, by rw [G1.out]; exact hJ.c.setN hp4 hd4, hJ.past.trans (hp4.mono (fun b hb => by simp at hb ⊢; simp [hb]))⟩
      case measure => simp [intOf]; omega
    · obtain rfl : j = l := by omega
      rw [decide_eq_false hlt] at hz
      have hC := hJ.c
      rw [HE.out] at hC
      go_wp2
      go_ret2
      exact ⟨by rw [HL.out, HU.out]; rfl, hJ.past, by rw [HF.out]; exact hC⟩
set_option maxRecDepth 20000 in
theorem take_no (C A N d k : Nat) (f g : Nat → Nat) (t : Bool) (w : World) (h : CAt C A N d f g k t w) (hk : k < 2 ^ d ∨ t = true) (er : Value) (hr : w.cell? ⟨0, 0, none⟩ = some er) :
    Calls Tryd.prog 10 #[.pointer (some ⟨C, 0, none⟩)] w fun e w' => e = .returned (.tuple #[.pointer none, er]) ∧ ∃ q, w' = w.drewN q := by
  have c1 := left_any C A N d k f g t w h
  have h3 := h.c3
  by_cases hl : k < 2 ^ d
  · have d1 : ¬ 2 ^ d - k = 0 := by omega
    generalize 2 ^ d - k = l at c1 d1
    clear h hk hl
    go_enter Tryd.func10, Tryd.ntmps10
    go_wp2_with (go_at_call 17; refine c1.mono ?_; rintro e w1 ⟨rfl, q, rfl⟩)
    go_quiet (fail)
    go_wp2
    go_ret2
    exact ⟨rfl, q + nq, by simp [go_sem]⟩
  · obtain rfl : t = true := hk.resolve_left hl
    rw [show 2 ^ d - k = 0 by omega] at c1
    clear h hk hl
    go_enter Tryd.func10, Tryd.ntmps10
    go_wp2_with (go_at_call 17; refine c1.mono ?_; rintro e w1 ⟨rfl, q, rfl⟩)
    go_quiet (fail)
    go_wp2
    go_ret2
    exact ⟨rfl, q + nq, by simp [go_sem]⟩
set_option maxRecDepth 20000 in
theorem take_yes (C A N d : Nat) (f g : Nat → Nat) (w : World) (h : CAt C A N d f g (2 ^ d) false w) :
    Calls Tryd.prog 10 #[.pointer (some ⟨C, 0, none⟩)] w fun e w' => e = .returned (.tuple #[.pointer (some ⟨N, 0, none⟩), .nilIface]) ∧ Past [C] w w' ∧ CAt C A N d f g (2 ^ d) true w' := by
  have c1 := left_any C A N d _ f g false w h
  rw [Nat.sub_self] at c1
  have h1 := h.c1
  have h3 := h.c3
  have hf := h.fz
  have H := Lib.hid h
  clear h
  go_enter Tryd.func10, Tryd.ntmps10
  go_wp2_with (go_at_call 17; refine c1.mono ?_; rintro e w1 ⟨rfl, q, rfl⟩)
  go_ret2
  exact ⟨rfl, ((Past.refl [C] w).drewN q).store (.inl (by simp)) _, (H.out.drewN q).take⟩

/-! ### a new one -/
theorem new_nil (w : World) (er : Value) (hr : w.cell? ⟨2, 0, none⟩ = some er) :
    Calls Tryd.prog 24 #[.pointer none] w fun e w' => e = .returned (.tuple #[.pointer none, er]) ∧ ∃ q, w' = w.drewN q := by
  go_enter Tryd.func24, Tryd.ntmps24
  go_wp2_with fail
  go_quiet (fail)
  go_wp2
  go_ret2
  exact ⟨rfl, _, rfl⟩
theorem new_far (A : Nat) (f : Nat → Nat) (w : World) (h : DAt A 5 f w) (er : Addr) (hr : w.cell? ⟨1, 0, none⟩ = some (errV er)) :
    Calls Tryd.prog 24 #[.pointer (some ⟨A, 0, none⟩)] w fun e w' => e = .returned (.tuple #[.pointer none, errV er]) ∧ ∃ q, w' = w.drewN q := by
  have c1 := depth_any A 5 f w h
  have c2 := dir.new_no 6 (.inr (by decide)) w _ hr
  go_enter Tryd.func24, Tryd.ntmps24
  go_wp2_with (first
    | (go_at_call 11; refine c1.mono ?_; rintro e w1 ⟨rfl, rfl⟩)
    | (go_at_call 22; refine c2.mono ?_; rintro e w2 ⟨rfl, q, rfl⟩))
  go_ret2
  exact ⟨rfl, _, rfl⟩
set_option maxRecDepth 20000 in
theorem new_yes (A d : Nat) (f : Nat → Nat) (hd : d ≤ 4) (w : World) (h : DAt A d f w) :
    Calls Tryd.prog 24 #[.pointer (some ⟨A, 0, none⟩)] w fun e w' => ∃ C, e = .returned (.tuple #[.pointer (some ⟨C, 0, none⟩), .nilIface]) ∧ w.heap.size < C ∧ CAt C A w.heap.size d f (fun _ => 0) 0 false w' ∧ Below w.heap.size w w' := by
  have c1 := depth_any A d f w h
  have c2 := dir.new_yes (d + 1) (by omega) w
  have e1 : IntKind.i64.wrap ((d : Int) + 1) = ((d + 1 : Nat) : Int) := by rw [IntWalk.i64_in _ (by omega)]; omega
  have H := Lib.hid h
  clear h
  go_enter Tryd.func24, Tryd.ntmps24
  go_wp2_with (first
    | (go_at_call 11; refine c1.mono ?_; rintro e w1 ⟨rfl, rfl⟩)
    | (go_at_call 22; refine c2.mono ?_; rintro e w2 ⟨rfl, hd2, hb2⟩))
  go_ret2
  have hb := (Below.refl w2.heap.size w2).alloc (Nat.le_refl _) (.cells #[.pointer (some ⟨A, 0, none⟩), .pointer (some ⟨w.heap.size, 0, none⟩), .int .i64 0, .bool false] 73)
  have hA := H.out.lt
  have hN := hd2.lt
  exact ⟨w2.heap.size, rfl, hN, ⟨hd, World.alloc_heap_new w2 _, (H.out.below hb2).below hb, hd2.below hb, Nat.zero_le _, by omega, by omega, by omega⟩, under.below_step hb2 hb⟩
end Go.Proofs.YtmbdfoobnkanlaaDoor.copyist
