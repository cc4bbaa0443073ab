/- TableDo: several texts in one: plain facts and laws for the walks. No program is named. -/
import Derived.Test.YtlgjmnckdjkngaaGreatDoorTableSpots2
import Derived.Test.YtlgjmnckdjkngaaGreatDoorTableDel
import Derived.Test.YtlgjmnckdjkngaaGreatDoorTableLeast
import Derived.Test.YtlgjmnckdjkngaaGreatDoorTableSort
import Derived.Deep.CutRange
import Derived.Deep.CutBlock
import Derived.Deep.RegionHeld3

/-! ### table: an act, done to the table and to the document's table (amblerlaw09.do). -/
namespace Go.Proofs.YtlgjmnckdjkngaaGreatDoor.table
open Go.ChangeShapes Go.WideShapes Go.ChangeAt Go.RowKit Go.Shelf swar under trap meter group probe lens tail call
attribute [local go_sem] Oper.semAt_some stage.pureUpon move.stepUpon
set_option linter.unusedSimpArgs false
set_option linter.unusedVariables false

/-- within do: the lens, the entry, the act in their boxes -/
structure Dp (w0 : World) (ae : String → Addr) (T B : Nat) (L : Ln) (m : Mt) (t : Tb) (f : Rf) (u : Tb) (k : Nat) (N X key h v : Nat) (kd ky nn : Int) (w W : World) : Prop where
  two : Two w0 ae T B L m t f u k W
  lc : W.cell? ⟨X, 0, none⟩ = some (.pointer L.p)
  e : EBox (X + 1) key v h W
  c0 : W.cell? ⟨X + 2, 0, none⟩ = some (.int .i64 kd)
  c1 : W.cell? ⟨X + 2, 1, none⟩ = some (.int .i64 ky)
  c2 : W.cell? ⟨X + 2, 2, none⟩ = some (.int .i64 nn)
  ps : Past (Dn T B L f N) w W
  n : t.n = N
  hX : w.heap.size = X
  hd : ∀ x ∈ Dn T B L f N, x < X
section
variable {w0 : World} {ae : String → Addr} {T B : Nat} {L : Ln} {m m' : Mt} {t t' u u' : Tb} {f : Rf} {k k' N X key h v : Nat} {kd ky nn : Int} {w W W' : World}
theorem Dp.sz (s : Dp w0 ae T B L m t f u k N X key h v kd ky nn w W) : X + 2 < W.heap.size := World.block_lt_of_cell? W _ s.c0
theorem Dp.out (s : Dp w0 ae T B L m t f u k N X key h v kd ky nn w W) {Y : Nat} (hY : X ≤ Y) : Y ∉ Dn T B L f N := fun e => by have := s.hd Y e; omega
theorem Dp.move (s : Dp w0 ae T B L m t f u k N X key h v kd ky nn w W) (q : Two w0 ae T B L m' t' f u' k' W' ∧ Past (Dn T B L f t.n) W W') (hn : t'.n = t.n) : Dp w0 ae T B L m' t' f u' k' N X key h v kd ky nn w W' ∧ Past (Dn T B L f N) W W' := by
  obtain ⟨q1, q2⟩ := q
  rw [s.n] at q2
  have n0 := s.out (Nat.le_refl X)
  have n1 := s.out (Nat.le_succ X)
  have n2 := s.out (Y := X + 2) (by omega)
  exact ⟨⟨q1, q2.cell s.lc n0, s.e.past q2 n1, q2.cell s.c0 n2, q2.cell s.c1 n2, q2.cell s.c2 n2, s.ps.trans q2, hn.trans s.n, s.hX, s.hd⟩, q2⟩
theorem Dp.keep (s : Dp w0 ae T B L m t f u k N X key h v kd ky nn w W) (hb : Below W.heap.size W W') : Dp w0 ae T B L m t f u k N X key h v kd ky nn w W' := (s.move ⟨s.two.read hb, Past.of hb⟩ rfl).1
theorem Dp.tl (s : Dp w0 ae T B L m t f u k N X key h v kd ky nn w W) (hs : TL T B t' L m' W W') (ok : t'.Ok) (hn : t'.n = t.n) : Dp w0 ae T B L m' t' f u k N X key h v kd ky nn w W' ∧ Past (Dn T B L f N) W W' := s.move (s.two.tl hs ok hn) hn
theorem Dp.look (s : Dp w0 ae T B L m t f u k N X key h v kd ky nn w W) (hs : LnStep [] L m' W W') : Dp w0 ae T B L m' t f u k N X key h v kd ky nn w W' ∧ Past (Dn T B L f N) W W' := s.move (s.two.look hs) rfl
theorem Dp.ref (s : Dp w0 ae T B L m t f u k N X key h v kd ky nn w W) (hs : WStep f u' k' W W') (hn : u'.n = u.n) : Dp w0 ae T B L m t f u' k' N X key h v kd ky nn w W' ∧ Past (Dn T B L f N) W W' := s.move (s.two.ref hs hn) rfl
theorem Dp.new (s : Two w0 ae T B L m t f u k w) (key h v : Nat) (kd ky nn : Int) : Dp w0 ae T B L m t f u k t.n w.heap.size key h v kd ky nn w (((w.alloc (.cells #[.pointer L.p] 44)).alloc (.cells #[.int .u64 (key : Nat), .int .u64 (v : Nat), .int .u64 (h : Nat)] 48)).alloc (.cells #[.int .i64 kd, .int .i64 ky, .int .i64 nn] 40)) := by
  have hb3 := three_new w (.cells #[.pointer L.p] 44) (.cells #[.int .u64 (key : Nat), .int .u64 (v : Nat), .int .u64 (h : Nat)] 48) (.cells #[.int .i64 kd, .int .i64 ky, .int .i64 nn] 40)
  have h1 := keepc (two_new (w.alloc (.cells #[.pointer L.p] 44)) (.cells #[.int .u64 (key : Nat), .int .u64 (v : Nat), .int .u64 (h : Nat)] 48) (.cells #[.int .i64 kd, .int .i64 ky, .int .i64 nn] 40)) (newc w (.pointer L.p) 44)
  have h2 := (EBox.second key v h w (.cells #[.pointer L.p] 44)).keep (new_block _ (.cells #[.int .i64 kd, .int .i64 ky, .int .i64 nn] 40))
  have z1 := World.size_alloc w (.cells #[.pointer L.p] 44)
  have z2 := World.size_alloc (w.alloc (.cells #[.pointer L.p] 44)) (.cells #[.int .u64 (key : Nat), .int .u64 (v : Nat), .int .u64 (h : Nat)] 48)
  have hr := World.alloc_heap_new ((w.alloc (.cells #[.pointer L.p] 44)).alloc (.cells #[.int .u64 (key : Nat), .int .u64 (v : Nat), .int .u64 (h : Nat)] 48)) (.cells #[.int .i64 kd, .int .i64 ky, .int .i64 nn] 40)
  rw [z2, z1, show w.heap.size + 1 + 1 = w.heap.size + 2 from rfl] at hr
  exact ⟨s.read hb3, h1, h2, by rw [cell_of_row _ _ _ _ _ _ hr]; rfl, by rw [cell_of_row _ _ _ _ _ _ hr]; rfl, by rw [cell_of_row _ _ _ _ _ _ hr]; rfl, Past.of hb3, rfl, rfl, s.lts⟩
end
theorem see_one (L : Ln) (m : Mt) : L.see m 1 = L.one m := rfl
set_option maxRecDepth 20000 in
set_option maxHeartbeats 4000000 in
theorem do_0 {w0 : World} {ae : String → Addr} (hB : Base ae w0) {T B : Nat} {L : Ln} {m : Mt} {t : Tb} {f : Rf} {k : Nat} {w : World} (s : Two w0 ae T B L m t f t k w) (key h v : Nat) (ky nn : Int) (hk : k + 500 < 9223372036854775807) (hky : key < 18446744073709551616) (hh : h < 18446744073709551616) (hv : v < 18446744073709551616) :
    Calls Tryz.prog 8 #[.pointer (some ⟨T, 0, none⟩), .pointer (some ⟨f.R, 0, none⟩), .agg #[.pointer L.p], group.entV key v h, .agg #[.int .i64 0, .int .i64 ky, .int .i64 nn]] w fun e w' => e = .returned (.bool true) ∧ ∃ t' n, n ≤ 64 ∧ t'.n = t.n ∧ Two w0 ae T B L (L.see m n) t' f t' (k + n) w' ∧ Past (Dn T B L f t.n) w w' := by
  have P0 := Lib.hid (Dp.new s key h v 0 ky nn)
  have hok := s.rd.ok
  have hlk := looks_le t key h
  have hn6 := okN_le hok.n
  have cN := fun b (hb : b ≤ 16) W (hs : Below w0.heap.size w0 W) => num_err ae b hb W (hB.errs.below hs)
  have cP := fun W (s : Two w0 ae T B L m t f t k W) => put_tab s.rd key h v hky hh hv
  have hro := hok.puts (key := key) (hs := h) (v := v) hky hh hv
  have hrn := puts_n t key h v
  have cQ := fun W m' t2 (s : Two w0 ae T B L m' t2 f t k W) => rtput_any f t hok k key v h (by omega) hh W s.wa
  have hpe : putE' t key h ≤ 16 := by unfold putE' roomE; split; omega; split; omega; split <;> omega
  generalize putE' t key h = pe at *
  generalize putB' t key h = pb at *
  generalize t.puts key h v = t' at *
  generalize looks t key h = lk at *
  clear s
  go_enter Tryz.func8, Tryz.ntmps8
  go_upto_region 1 with (fail)
  obtain ⟨X, hX⟩ : ∃ X, w.heap.size = X := ⟨_, rfl⟩
  rw [hX] at P0 ⊢
  simp only [Nat.add_assoc, Nat.reduceAdd]
  clear hX
  generalize (((w.alloc (.cells #[.pointer L.p] 44)).alloc (.cells #[.int .u64 (key : Nat), .int .u64 (v : Nat), .int .u64 (h : Nat)] 48)).alloc (.cells #[.int .i64 0, .int .i64 ky, .int .i64 nn] 40)) = w3 at *
  have y0 := P0.out.lc
  have y1 := P0.out.e.c0
  have y2 := P0.out.e.c1
  have y3 := P0.out.e.c2
  have y4 := P0.out.c0
  have y5 := P0.out.c1
  have y6 := P0.out.c2
  go_wp2_with (first
    | (go_at_call 21; (with_reducible refine (cP _ P0.out.two).mono ?_); rintro e w4 ⟨rfl, hs4⟩; obtain ⟨P4, p4⟩ := P0.out.tl hs4 hro hrn; have u1 := P4.e.c0; have u2 := P4.e.c1; have u3 := P4.e.c2; have u4 := P4.c2)
    | (go_at_call 30; (with_reducible refine (cQ _ _ _ P4.two).mono ?_); rintro e w5 ⟨rfl, hs5⟩; obtain ⟨P5, p5⟩ := P4.ref hs5 hrn)
    | (go_at_call 7; (with_reducible refine (cN pe hpe _ P5.two.bel).mono ?_); rintro e w6 ⟨rfl, hb6⟩; have P6 := P5.keep hb6))
  go_ret
  exact ⟨by simp, t', lk, by omega, hrn, P6.two, P6.ps⟩
set_option maxRecDepth 20000 in
set_option maxHeartbeats 4000000 in
theorem do_1 {w0 : World} {ae : String → Addr} (hB : Base ae w0) {T B : Nat} {L : Ln} {m : Mt} {t : Tb} {f : Rf} {k : Nat} {w : World} (s : Two w0 ae T B L m t f t k w) (key h v : Nat) (ky nn : Int) (hk : k + 500 < 9223372036854775807) (hky : key < 18446744073709551616) (hh : h < 18446744073709551616) (hv : v < 18446744073709551616) :
    Calls Tryz.prog 8 #[.pointer (some ⟨T, 0, none⟩), .pointer (some ⟨f.R, 0, none⟩), .agg #[.pointer L.p], group.entV key v h, .agg #[.int .i64 1, .int .i64 ky, .int .i64 nn]] w fun e w' => e = .returned (.bool true) ∧ ∃ t' n, n ≤ 64 ∧ t'.n = t.n ∧ Two w0 ae T B L (L.see m n) t' f t' (k + n) w' ∧ Past (Dn T B L f t.n) w w' := by
  have P0 := Lib.hid (Dp.new s key h v 1 ky nn)
  have hok := s.rd.ok
  have hlk := looks_le t key h
  have hn6 := okN_le hok.n
  have cN := fun b (hb : b ≤ 16) W (hs : Below w0.heap.size w0 W) => num_err ae b hb W (hB.errs.below hs)
  have cP := fun W (s : Two w0 ae T B L m t f t k W) => delete_tab s.rd key h hky hh
  have cQ := fun W m' t2 (s : Two w0 ae T B L m' t2 f t k W) => rtdelete_any f t hok k key h (by omega) hh W s.wa
  have hro := hok.remove (key := key) (hs := h)
  have hrn := remove_n t key h
  generalize (entOf t key h).key = ek at *
  generalize (entOf t key h).val = ev at *
  generalize (entOf t key h).hash = eh at *
  generalize isThere t key h = it at *
  generalize t.remove key h = t' at *
  generalize looks t key h = lk at *
  clear s
  go_enter Tryz.func8, Tryz.ntmps8
  go_upto_region 1 with (fail)
  obtain ⟨X, hX⟩ : ∃ X, w.heap.size = X := ⟨_, rfl⟩
  rw [hX] at P0 ⊢
  simp only [Nat.add_assoc, Nat.reduceAdd]
  clear hX
  generalize (((w.alloc (.cells #[.pointer L.p] 44)).alloc (.cells #[.int .u64 (key : Nat), .int .u64 (v : Nat), .int .u64 (h : Nat)] 48)).alloc (.cells #[.int .i64 1, .int .i64 ky, .int .i64 nn] 40)) = w3 at *
  have y0 := P0.out.lc
  have y1 := P0.out.e.c0
  have y2 := P0.out.e.c1
  have y3 := P0.out.e.c2
  have y4 := P0.out.c0
  have y5 := P0.out.c1
  have y6 := P0.out.c2
  go_wp2_with (first
    | (go_at_call 31; (with_reducible refine (cP _ P0.out.two).mono ?_); rintro e w4 ⟨rfl, hs4⟩; obtain ⟨P4, p4⟩ := P0.out.tl hs4 hro hrn; have V4 := EBox.new ek ev eh w4; have P5 := P4.keep (new_block w4 (.cells #[.int .u64 (ek : Nat), .int .u64 (ev : Nat), .int .u64 (eh : Nat)] 48)); have u1 := P5.e.c0; have u2 := P5.e.c1; have u3 := P5.e.c2; have u4 := P5.c2)
    | (go_at_call 32; (with_reducible refine (cQ _ _ _ P5.two).mono ?_); rintro e w6 ⟨rfl, hs6⟩; obtain ⟨P6, p6⟩ := P5.ref hs6 hrn; have V6 := V4.past p6 (P4.out (Nat.le_of_lt (by have := P4.sz; omega))); have P7 := P6.keep (new_block w6 (.cells #[.int .u64 (ek : Nat), .int .u64 (ev : Nat), .int .u64 (eh : Nat)] 48)); have V7 := V6.keep (new_block w6 (.cells #[.int .u64 (ek : Nat), .int .u64 (ev : Nat), .int .u64 (eh : Nat)] 48)); have U7 := EBox.new ek ev eh w6; have g0 := V7.c0; have g1 := V7.c1; have g2 := V7.c2; have g3 := U7.c0; have g4 := U7.c1; have g5 := U7.c2))
  go_ret
  exact ⟨by simp, t', lk, by omega, hrn, P7.two, P7.ps⟩
set_option maxRecDepth 20000 in
set_option maxHeartbeats 4000000 in
theorem do_2 {w0 : World} {ae : String → Addr} (hB : Base ae w0) {T B : Nat} {L : Ln} {m : Mt} {t : Tb} {f : Rf} {k : Nat} {w : World} (s : Two w0 ae T B L m t f t k w) (key h v : Nat) (ky nn : Int) (hk : k + 500 < 9223372036854775807) (hky : key < 18446744073709551616) (hh : h < 18446744073709551616) (hv : v < 18446744073709551616) :
    Calls Tryz.prog 8 #[.pointer (some ⟨T, 0, none⟩), .pointer (some ⟨f.R, 0, none⟩), .agg #[.pointer L.p], group.entV key v h, .agg #[.int .i64 2, .int .i64 ky, .int .i64 nn]] w fun e w' => e = .returned (.bool true) ∧ ∃ t' n, n ≤ 64 ∧ t'.n = t.n ∧ Two w0 ae T B L (L.see m n) t' f t' (k + n) w' ∧ Past (Dn T B L f t.n) w w' := by
  have P0 := Lib.hid (Dp.new s key h v 2 ky nn)
  have hok := s.rd.ok
  have hlk := looks_le t key h
  have hn6 := okN_le hok.n
  have cN := fun b (hb : b ≤ 16) W (hs : Below w0.heap.size w0 W) => num_err ae b hb W (hB.errs.below hs)
  have cP := fun W (s : Two w0 ae T B L m t f t k W) => find_tab s.rd key h hky hh
  have cQ := fun W m' t2 (s : Two w0 ae T B L m' t2 f t k W) => rtfind_any f t hok.n k key h (by omega) hh W s.wa
  generalize (entOf t key h).key = ek at *
  generalize (entOf t key h).val = ev at *
  generalize (entOf t key h).hash = eh at *
  generalize isThere t key h = it at *
  generalize looks t key h = lk at *
  clear s
  go_enter Tryz.func8, Tryz.ntmps8
  go_upto_region 1 with (fail)
  obtain ⟨X, hX⟩ : ∃ X, w.heap.size = X := ⟨_, rfl⟩
  rw [hX] at P0 ⊢
  simp only [Nat.add_assoc, Nat.reduceAdd]
  clear hX
  generalize (((w.alloc (.cells #[.pointer L.p] 44)).alloc (.cells #[.int .u64 (key : Nat), .int .u64 (v : Nat), .int .u64 (h : Nat)] 48)).alloc (.cells #[.int .i64 2, .int .i64 ky, .int .i64 nn] 40)) = w3 at *
  have y0 := P0.out.lc
  have y1 := P0.out.e.c0
  have y2 := P0.out.e.c1
  have y3 := P0.out.e.c2
  have y4 := P0.out.c0
  have y5 := P0.out.c1
  have y6 := P0.out.c2
  go_wp2_with (first
    | (go_at_call 22; (with_reducible refine (cP _ P0.out.two).mono ?_); rintro e w4 ⟨rfl, hs4⟩; obtain ⟨P4, p4⟩ := P0.out.look hs4; have V4 := EBox.new ek ev eh w4; have P5 := P4.keep (new_block w4 (.cells #[.int .u64 (ek : Nat), .int .u64 (ev : Nat), .int .u64 (eh : Nat)] 48)); have u1 := P5.e.c0; have u2 := P5.e.c1; have u3 := P5.e.c2; have u4 := P5.c2)
    | (go_at_call 33; (with_reducible refine (cQ _ _ _ P5.two).mono ?_); rintro e w6 ⟨rfl, hs6⟩; obtain ⟨P6, p6⟩ := P5.ref hs6 rfl; have V6 := V4.past p6 (P4.out (Nat.le_of_lt (by have := P4.sz; omega))); have P7 := P6.keep (new_block w6 (.cells #[.int .u64 (ek : Nat), .int .u64 (ev : Nat), .int .u64 (eh : Nat)] 48)); have V7 := V6.keep (new_block w6 (.cells #[.int .u64 (ek : Nat), .int .u64 (ev : Nat), .int .u64 (eh : Nat)] 48)); have U7 := EBox.new ek ev eh w6; have g0 := V7.c0; have g1 := V7.c1; have g2 := V7.c2; have g3 := U7.c0; have g4 := U7.c1; have g5 := U7.c2))
  go_ret
  exact ⟨by simp, t, lk, by omega, rfl, P7.two, P7.ps⟩
set_option maxRecDepth 20000 in
set_option maxHeartbeats 4000000 in
theorem do_else {w0 : World} {ae : String → Addr} (hB : Base ae w0) {T B : Nat} {L : Ln} {m : Mt} {t : Tb} {f : Rf} {k : Nat} {w : World} (s : Two w0 ae T B L m t f t k w) (key h v : Nat) (kd ky nn : Int) (hk : k + 500 < 9223372036854775807) (hky : key < 18446744073709551616) (hh : h < 18446744073709551616) (hv : v < 18446744073709551616) (h0 : kd ≠ 0) (h1 : kd ≠ 1) (h2 : kd ≠ 2) (h3 : kd ≠ 3) (h4 : kd ≠ 4) (h5 : kd ≠ 5) (h6 : kd ≠ 6) (h7 : kd ≠ 7) (h8 : kd ≠ 8) :
    Calls Tryz.prog 8 #[.pointer (some ⟨T, 0, none⟩), .pointer (some ⟨f.R, 0, none⟩), .agg #[.pointer L.p], group.entV key v h, .agg #[.int .i64 kd, .int .i64 ky, .int .i64 nn]] w fun e w' => e = .returned (.bool true) ∧ ∃ t' n, n ≤ 64 ∧ t'.n = t.n ∧ Two w0 ae T B L (L.see m n) t' f t' (k + n) w' ∧ Past (Dn T B L f t.n) w w' := by
  have P0 := Lib.hid (Dp.new s key h v kd ky nn)
  have hok := s.rd.ok
  have hlk := looks_le t key h
  have hn6 := okN_le hok.n
  have cN := fun b (hb : b ≤ 16) W (hs : Below w0.heap.size w0 W) => num_err ae b hb W (hB.errs.below hs)
  have e0 : (kd == 0) = false := beq_eq_false_iff_ne.2 h0
  have e1 : (kd == 1) = false := beq_eq_false_iff_ne.2 h1
  have e2 : (kd == 2) = false := beq_eq_false_iff_ne.2 h2
  have e3 : (kd == 3) = false := beq_eq_false_iff_ne.2 h3
  have e4 : (kd == 4) = false := beq_eq_false_iff_ne.2 h4
  have e5 : (kd == 5) = false := beq_eq_false_iff_ne.2 h5
  have e6 : (kd == 6) = false := beq_eq_false_iff_ne.2 h6
  have e7 : (kd == 7) = false := beq_eq_false_iff_ne.2 h7
  have e8 : (kd == 8) = false := beq_eq_false_iff_ne.2 h8
  clear h0 h1 h2 h3 h4 h5 h6 h7 h8
  clear s
  go_enter Tryz.func8, Tryz.ntmps8
  go_upto_region 1 with (fail)
  obtain ⟨X, hX⟩ : ∃ X, w.heap.size = X := ⟨_, rfl⟩
  rw [hX] at P0 ⊢
  simp only [Nat.add_assoc, Nat.reduceAdd]
  clear hX
  generalize (((w.alloc (.cells #[.pointer L.p] 44)).alloc (.cells #[.int .u64 (key : Nat), .int .u64 (v : Nat), .int .u64 (h : Nat)] 48)).alloc (.cells #[.int .i64 kd, .int .i64 ky, .int .i64 nn] 40)) = w3 at *
  have y0 := P0.out.lc
  have y1 := P0.out.e.c0
  have y2 := P0.out.e.c1
  have y3 := P0.out.e.c2
  have y4 := P0.out.c0
  have y5 := P0.out.c1
  have y6 := P0.out.c2
  go_wp2
  go_ret
  exact ⟨rfl, t, 0, by omega, rfl, P0.out.two, P0.out.ps⟩
set_option maxRecDepth 20000 in
set_option maxHeartbeats 4000000 in
theorem do_6 {w0 : World} {ae : String → Addr} (hB : Base ae w0) {T B : Nat} {L : Ln} {m : Mt} {t : Tb} {f : Rf} {k : Nat} {w : World} (s : Two w0 ae T B L m t f t k w) (key h v : Nat) (ky nn : Int) (hk : k + 500 < 9223372036854775807) (hky : key < 18446744073709551616) (hh : h < 18446744073709551616) (hv : v < 18446744073709551616) :
    Calls Tryz.prog 8 #[.pointer (some ⟨T, 0, none⟩), .pointer (some ⟨f.R, 0, none⟩), .agg #[.pointer L.p], group.entV key v h, .agg #[.int .i64 6, .int .i64 ky, .int .i64 nn]] w fun e w' => e = .returned (.bool true) ∧ ∃ t' n, n ≤ 64 ∧ t'.n = t.n ∧ Two w0 ae T B L (L.see m n) t' f t' (k + n) w' ∧ Past (Dn T B L f t.n) w w' := by
  have P0 := Lib.hid (Dp.new s key h v 6 ky nn)
  have hok := s.rd.ok
  have hlk := looks_le t key h
  have hn6 := okN_le hok.n
  have cN := fun b (hb : b ≤ 16) W (hs : Below w0.heap.size w0 W) => num_err ae b hb W (hB.errs.below hs)
  have cS := fun W (s : Two w0 ae T B L m t f t k W) => s.rd.seek key h hky hh
  have hrn : (t.replace key h v).n = t.n := by exact replace_n _ _ _ _
  have cO := fun W (s : Two w0 ae T B L (L.see m (looks t key h)) t f t k W) => (show Calls Tryz.prog 42 #[spotV T B key h (lastG t key h) (roomG t key h), .pointer (some ⟨f.R, 0, none⟩), group.entV key v h, .agg #[.int .i64 6, .int .i64 ky, .int .i64 nn]] W fun e w' => e = .returned (.bool true) ∧ Two w0 ae T B L (L.see m (looks t key h)) (t.replace key h v) f (t.replace key h v) (k + looks t key h) w' ∧ Past (Dn T B L f t.n) W w' from by
    cases ht : isThere t key h
    · exact spot_6n hB s key h v ky nn (by omega) hky hh hv ht
    · exact spot_6y hB s key h v ky nn (by omega) hky hh hv ht)
  generalize t.replace key h v = t' at *
  generalize lastG t key h = la at *
  generalize roomG t key h = rm at *
  generalize looks t key h = lk at *
  clear s
  go_enter Tryz.func8, Tryz.ntmps8
  go_upto_region 1 with (fail)
  obtain ⟨X, hX⟩ : ∃ X, w.heap.size = X := ⟨_, rfl⟩
  rw [hX] at P0 ⊢
  simp only [Nat.add_assoc, Nat.reduceAdd]
  clear hX
  generalize (((w.alloc (.cells #[.pointer L.p] 44)).alloc (.cells #[.int .u64 (key : Nat), .int .u64 (v : Nat), .int .u64 (h : Nat)] 48)).alloc (.cells #[.int .i64 6, .int .i64 ky, .int .i64 nn] 40)) = w3 at *
  have y0 := P0.out.lc
  have y1 := P0.out.e.c0
  have y2 := P0.out.e.c1
  have y3 := P0.out.e.c2
  have y4 := P0.out.c0
  have y5 := P0.out.c1
  have y6 := P0.out.c2
  go_upto_region 32 with (fail)
  go_region_held3 (fun w' => w'.cell? ⟨X, 0, none⟩ = some (.pointer L.p) ∧ w'.cell? ⟨X + 1, 0, none⟩ = some (.int .u64 (key : Nat)) ∧ w'.cell? ⟨X + 1, 1, none⟩ = some (.int .u64 (v : Nat)) ∧ w'.cell? ⟨X + 1, 2, none⟩ = some (.int .u64 (h : Nat)) ∧ w'.cell? ⟨X + 2, 0, none⟩ = some (.int .i64 6) ∧ w'.cell? ⟨X + 2, 1, none⟩ = some (.int .i64 ky) ∧ w'.cell? ⟨X + 2, 2, none⟩ = some (.int .i64 nn))
    (first
      | exact ⟨P6.lc, P6.e.c0, P6.e.c1, P6.e.c2, P6.c0, P6.c1, P6.c2⟩
      | exact ⟨P5.lc, P5.e.c0, P5.e.c1, P5.e.c2, P5.c0, P5.c1, P5.c2⟩
      | go_keep)
    (first
      | (go_at_call 43; (with_reducible refine (cS _ (P0.out.two.read (under.drew_below _))).mono ?_); rintro e w5 ⟨rfl, hs5⟩; obtain ⟨P5, p5⟩ := (P0.out.keep (under.drew_below _)).look hs5)
      | (go_at_call 42; (with_reducible refine (cO _ P5.two).mono ?_); rintro e w6 ⟨rfl, q6⟩; obtain ⟨P6, p6⟩ := P5.move q6 hrn))
  go_wp2
  go_ret
  exact ⟨rfl, t', lk, by omega, hrn, P6.two, P6.ps⟩
set_option maxRecDepth 20000 in
set_option maxHeartbeats 4000000 in
theorem do_7 {w0 : World} {ae : String → Addr} (hB : Base ae w0) {T B : Nat} {L : Ln} {m : Mt} {t : Tb} {f : Rf} {k : Nat} {w : World} (s : Two w0 ae T B L m t f t k w) (key h v : Nat) (ky nn : Int) (hk : k + 500 < 9223372036854775807) (hky : key < 18446744073709551616) (hh : h < 18446744073709551616) (hv : v < 18446744073709551616) :
    Calls Tryz.prog 8 #[.pointer (some ⟨T, 0, none⟩), .pointer (some ⟨f.R, 0, none⟩), .agg #[.pointer L.p], group.entV key v h, .agg #[.int .i64 7, .int .i64 ky, .int .i64 nn]] w fun e w' => e = .returned (.bool true) ∧ ∃ t' n, n ≤ 64 ∧ t'.n = t.n ∧ Two w0 ae T B L (L.see m n) t' f t' (k + n) w' ∧ Past (Dn T B L f t.n) w w' := by
  have P0 := Lib.hid (Dp.new s key h v 7 ky nn)
  have hok := s.rd.ok
  have hlk := looks_le t key h
  have hn6 := okN_le hok.n
  have cN := fun b (hb : b ≤ 16) W (hs : Below w0.heap.size w0 W) => num_err ae b hb W (hB.errs.below hs)
  have cS := fun W (s : Two w0 ae T B L m t f t k W) => s.rd.seek key h hky hh
  have hrn : ((if isThere t key h = true then t else t.place key h v)).n = t.n := by split; rfl; exact place_n _ _ _ _
  have cO := fun W (s : Two w0 ae T B L (L.see m (looks t key h)) t f t k W) => (show Calls Tryz.prog 42 #[spotV T B key h (lastG t key h) (roomG t key h), .pointer (some ⟨f.R, 0, none⟩), group.entV key v h, .agg #[.int .i64 7, .int .i64 ky, .int .i64 nn]] W fun e w' => e = .returned (.bool true) ∧ Two w0 ae T B L (L.see m (looks t key h)) ((if isThere t key h = true then t else t.place key h v)) f ((if isThere t key h = true then t else t.place key h v)) (k + looks t key h) w' ∧ Past (Dn T B L f t.n) W w' from by
    cases ht : isThere t key h
    · rw [if_neg (by decide)]; exact spot_7n hB s key h v ky nn (by omega) hky hh hv ht
    · rw [if_pos rfl]; exact spot_7y hB s key h v ky nn (by omega) hky hh hv ht)
  generalize (if isThere t key h = true then t else t.place key h v) = t' at *
  generalize lastG t key h = la at *
  generalize roomG t key h = rm at *
  generalize looks t key h = lk at *
  clear s
  go_enter Tryz.func8, Tryz.ntmps8
  go_upto_region 1 with (fail)
  obtain ⟨X, hX⟩ : ∃ X, w.heap.size = X := ⟨_, rfl⟩
  rw [hX] at P0 ⊢
  simp only [Nat.add_assoc, Nat.reduceAdd]
  clear hX
  generalize (((w.alloc (.cells #[.pointer L.p] 44)).alloc (.cells #[.int .u64 (key : Nat), .int .u64 (v : Nat), .int .u64 (h : Nat)] 48)).alloc (.cells #[.int .i64 7, .int .i64 ky, .int .i64 nn] 40)) = w3 at *
  have y0 := P0.out.lc
  have y1 := P0.out.e.c0
  have y2 := P0.out.e.c1
  have y3 := P0.out.e.c2
  have y4 := P0.out.c0
  have y5 := P0.out.c1
  have y6 := P0.out.c2
  go_upto_region 32 with (fail)
  go_region_held3 (fun w' => w'.cell? ⟨X, 0, none⟩ = some (.pointer L.p) ∧ w'.cell? ⟨X + 1, 0, none⟩ = some (.int .u64 (key : Nat)) ∧ w'.cell? ⟨X + 1, 1, none⟩ = some (.int .u64 (v : Nat)) ∧ w'.cell? ⟨X + 1, 2, none⟩ = some (.int .u64 (h : Nat)) ∧ w'.cell? ⟨X + 2, 0, none⟩ = some (.int .i64 7) ∧ w'.cell? ⟨X + 2, 1, none⟩ = some (.int .i64 ky) ∧ w'.cell? ⟨X + 2, 2, none⟩ = some (.int .i64 nn))
    (first
      | exact ⟨P6.lc, P6.e.c0, P6.e.c1, P6.e.c2, P6.c0, P6.c1, P6.c2⟩
      | exact ⟨P5.lc, P5.e.c0, P5.e.c1, P5.e.c2, P5.c0, P5.c1, P5.c2⟩
      | go_keep)
    (first
      | (go_at_call 43; (with_reducible refine (cS _ (P0.out.two.read (under.drew_below _))).mono ?_); rintro e w5 ⟨rfl, hs5⟩; obtain ⟨P5, p5⟩ := (P0.out.keep (under.drew_below _)).look hs5)
      | (go_at_call 42; (with_reducible refine (cO _ P5.two).mono ?_); rintro e w6 ⟨rfl, q6⟩; obtain ⟨P6, p6⟩ := P5.move q6 hrn))
  go_wp2
  go_ret
  exact ⟨rfl, t', lk, by omega, hrn, P6.two, P6.ps⟩
set_option maxRecDepth 20000 in
set_option maxHeartbeats 4000000 in
theorem do_8 {w0 : World} {ae : String → Addr} (hB : Base ae w0) {T B : Nat} {L : Ln} {m : Mt} {t : Tb} {f : Rf} {k : Nat} {w : World} (s : Two w0 ae T B L m t f t k w) (key h v : Nat) (ky nn : Int) (hk : k + 500 < 9223372036854775807) (hky : key < 18446744073709551616) (hh : h < 18446744073709551616) (hv : v < 18446744073709551616) :
    Calls Tryz.prog 8 #[.pointer (some ⟨T, 0, none⟩), .pointer (some ⟨f.R, 0, none⟩), .agg #[.pointer L.p], group.entV key v h, .agg #[.int .i64 8, .int .i64 ky, .int .i64 nn]] w fun e w' => e = .returned (.bool true) ∧ ∃ t' n, n ≤ 64 ∧ t'.n = t.n ∧ Two w0 ae T B L (L.see m n) t' f t' (k + n) w' ∧ Past (Dn T B L f t.n) w w' := by
  have P0 := Lib.hid (Dp.new s key h v 8 ky nn)
  have hok := s.rd.ok
  have hlk := looks_le t key h
  have hn6 := okN_le hok.n
  have cN := fun b (hb : b ≤ 16) W (hs : Below w0.heap.size w0 W) => num_err ae b hb W (hB.errs.below hs)
  have cS := fun W (s : Two w0 ae T B L m t f t k W) => s.rd.seek key h hky hh
  have hrn : (t.remove key h).n = t.n := by exact remove_n _ _ _
  have cO := fun W (s : Two w0 ae T B L (L.see m (looks t key h)) t f t k W) => (show Calls Tryz.prog 42 #[spotV T B key h (lastG t key h) (roomG t key h), .pointer (some ⟨f.R, 0, none⟩), group.entV key v h, .agg #[.int .i64 8, .int .i64 ky, .int .i64 nn]] W fun e w' => e = .returned (.bool true) ∧ Two w0 ae T B L (L.see m (looks t key h)) (t.remove key h) f (t.remove key h) (k + looks t key h) w' ∧ Past (Dn T B L f t.n) W w' from by
    cases ht : isThere t key h
    · exact spot_8n hB s key h v ky nn (by omega) hky hh hv ht
    · exact spot_8y hB s key h v ky nn (by omega) hky hh hv ht)
  generalize t.remove key h = t' at *
  generalize lastG t key h = la at *
  generalize roomG t key h = rm at *
  generalize looks t key h = lk at *
  clear s
  go_enter Tryz.func8, Tryz.ntmps8
  go_upto_region 1 with (fail)
  obtain ⟨X, hX⟩ : ∃ X, w.heap.size = X := ⟨_, rfl⟩
  rw [hX] at P0 ⊢
  simp only [Nat.add_assoc, Nat.reduceAdd]
  clear hX
  generalize (((w.alloc (.cells #[.pointer L.p] 44)).alloc (.cells #[.int .u64 (key : Nat), .int .u64 (v : Nat), .int .u64 (h : Nat)] 48)).alloc (.cells #[.int .i64 8, .int .i64 ky, .int .i64 nn] 40)) = w3 at *
  have y0 := P0.out.lc
  have y1 := P0.out.e.c0
  have y2 := P0.out.e.c1
  have y3 := P0.out.e.c2
  have y4 := P0.out.c0
  have y5 := P0.out.c1
  have y6 := P0.out.c2
  go_upto_region 32 with (fail)
  go_region_held3 (fun w' => w'.cell? ⟨X, 0, none⟩ = some (.pointer L.p) ∧ w'.cell? ⟨X + 1, 0, none⟩ = some (.int .u64 (key : Nat)) ∧ w'.cell? ⟨X + 1, 1, none⟩ = some (.int .u64 (v : Nat)) ∧ w'.cell? ⟨X + 1, 2, none⟩ = some (.int .u64 (h : Nat)) ∧ w'.cell? ⟨X + 2, 0, none⟩ = some (.int .i64 8) ∧ w'.cell? ⟨X + 2, 1, none⟩ = some (.int .i64 ky) ∧ w'.cell? ⟨X + 2, 2, none⟩ = some (.int .i64 nn))
    (first
      | exact ⟨P6.lc, P6.e.c0, P6.e.c1, P6.e.c2, P6.c0, P6.c1, P6.c2⟩
      | exact ⟨P5.lc, P5.e.c0, P5.e.c1, P5.e.c2, P5.c0, P5.c1, P5.c2⟩
      | go_keep)
    (first
      | (go_at_call 43; (with_reducible refine (cS _ (P0.out.two.read (under.drew_below _))).mono ?_); rintro e w5 ⟨rfl, hs5⟩; obtain ⟨P5, p5⟩ := (P0.out.keep (under.drew_below _)).look hs5)
      | (go_at_call 42; (with_reducible refine (cO _ P5.two).mono ?_); rintro e w6 ⟨rfl, q6⟩; obtain ⟨P6, p6⟩ := P5.move q6 hrn))
  go_wp2
  go_ret
  exact ⟨rfl, t', lk, by omega, hrn, P6.two, P6.ps⟩
end Go.Proofs.YtlgjmnckdjkngaaGreatDoor.table

/-! ### table: an act, done to the table and to the document's table (amblerlaw09.do). -/
namespace Go.Proofs.YtlgjmnckdjkngaaGreatDoor.table
open Go.ChangeShapes Go.WideShapes Go.ChangeAt Go.RowKit Go.Shelf swar under trap meter group probe lens tail call
attribute [local go_sem] Oper.semAt_some stage.pureUpon move.stepUpon
set_option linter.unusedSimpArgs false
set_option linter.unusedVariables false

theorem rows_none (f : Nat → Sl) (W : World) : RowsAt none f 0 W := fun j hj => absurd hj (Nat.not_lt_zero j)
set_option maxRecDepth 20000 in
set_option maxHeartbeats 4000000 in
theorem do_3off {w0 : World} {ae : String → Addr} (hB : Base ae w0) {T B : Nat} {L : Ln} {m : Mt} {t : Tb} {f : Rf} {k : Nat} {w : World} (s : Two w0 ae T B L m t f t k w) (key h v : Nat) (ky nn : Int) (hk : k + 500 < 9223372036854775807) (hky : key < 18446744073709551616) (hh : h < 18446744073709551616) (hv : v < 18446744073709551616) (hi : nn < 0 ∨ (t.n : Int) ≤ nn) :
    Calls Tryz.prog 8 #[.pointer (some ⟨T, 0, none⟩), .pointer (some ⟨f.R, 0, none⟩), .agg #[.pointer L.p], group.entV key v h, .agg #[.int .i64 3, .int .i64 ky, .int .i64 nn]] w fun e w' => e = .returned (.bool true) ∧ ∃ t' n, n ≤ 64 ∧ t'.n = t.n ∧ Two w0 ae T B L (L.see m n) t' f t' (k + n) w' ∧ Past (Dn T B L f t.n) w w' := by
  have P0 := Lib.hid (Dp.new s key h v 3 ky nn)
  have hok := s.rd.ok
  have hlk := looks_le t key h
  have hn6 := okN_le hok.n
  have cN := fun b (hb : b ≤ 16) W (hs : Below w0.heap.size w0 W) => num_err ae b hb W (hB.errs.below hs)
  have cP := fun W (s : Two w0 ae T B L m t f t k W) => take_off s.rd nn hi
  have cQ := fun W m' t2 (s : Two w0 ae T B L m' t2 f t k W) => rttake_off f t k nn hi W s.wa
  have cS := fun W => same_any none none 0 0 0 (fun _ => slZ) (by decide) W (rows_none _ _) (rows_none _ _)
  clear hi
  clear s
  go_enter Tryz.func8, Tryz.ntmps8
  go_upto_region 1 with (fail)
  obtain ⟨X, hX⟩ : ∃ X, w.heap.size = X := ⟨_, rfl⟩
  rw [hX] at P0 ⊢
  simp only [Nat.add_assoc, Nat.reduceAdd]
  clear hX
  generalize (((w.alloc (.cells #[.pointer L.p] 44)).alloc (.cells #[.int .u64 (key : Nat), .int .u64 (v : Nat), .int .u64 (h : Nat)] 48)).alloc (.cells #[.int .i64 3, .int .i64 ky, .int .i64 nn] 40)) = w3 at *
  have y0 := P0.out.lc
  have y1 := P0.out.e.c0
  have y2 := P0.out.e.c1
  have y3 := P0.out.e.c2
  have y4 := P0.out.c0
  have y5 := P0.out.c1
  have y6 := P0.out.c2
  go_wp2_with (first
    | (go_at_call 34; (with_reducible refine (cP _ P0.out.two).mono ?_); rintro e w4 ⟨rfl, hb4⟩; have P4 := P0.out.keep hb4; have u1 := P4.e.c0; have u2 := P4.e.c1; have u3 := P4.e.c2; have u4 := P4.c2)
    | (go_at_call 35; (with_reducible refine (cQ _ _ _ P4.two).mono ?_); rintro e w5 ⟨rfl, hs5⟩; obtain ⟨P5, p5⟩ := P4.ref hs5 rfl)
    | (go_at_call 36; (with_reducible refine (cS _).mono ?_); rintro e w6 ⟨rfl, hb6⟩; have P6 := P5.keep hb6)
    | (go_at_call 7; (with_reducible refine (cN 1 (by decide) _ P6.two.bel).mono ?_); rintro e w7 ⟨rfl, hb7⟩; have P7 := P6.keep hb7))
  go_ret
  exact ⟨rfl, t, 0, by omega, rfl, P7.two, P7.ps⟩
set_option maxRecDepth 20000 in
set_option maxHeartbeats 4000000 in
theorem do_3in {w0 : World} {ae : String → Addr} (hB : Base ae w0) {T B : Nat} {L : Ln} {m : Mt} {t : Tb} {f : Rf} {k : Nat} {w : World} (s : Two w0 ae T B L m t f t k w) (key h v : Nat) (ky nn : Int) (hk : k + 500 < 9223372036854775807) (hky : key < 18446744073709551616) (hh : h < 18446744073709551616) (hv : v < 18446744073709551616) (i : Nat) (hi : i < t.n) (hni : nn = i) :
    Calls Tryz.prog 8 #[.pointer (some ⟨T, 0, none⟩), .pointer (some ⟨f.R, 0, none⟩), .agg #[.pointer L.p], group.entV key v h, .agg #[.int .i64 3, .int .i64 ky, .int .i64 nn]] w fun e w' => e = .returned (.bool true) ∧ ∃ t' n, n ≤ 64 ∧ t'.n = t.n ∧ Two w0 ae T B L (L.see m n) t' f t' (k + n) w' ∧ Past (Dn T B L f t.n) w w' := by
  have P0 := Lib.hid (Dp.new s key h v 3 ky nn)
  have hok := s.rd.ok
  have hlk := looks_le t key h
  have hn6 := okN_le hok.n
  have cN := fun b (hb : b ≤ 16) W (hs : Below w0.heap.size w0 W) => num_err ae b hb W (hB.errs.below hs)
  subst hni
  have cP := fun W (s : Two w0 ae T B L m t f t k W) => take_in s.rd i hi
  have cQ := fun W m' t2 (s : Two w0 ae T B L m' t2 f t k W) => rttake_any f t hok.n k i hi (by omega) W s.wa
  have cN0 := fun W (hs : Below w0.heap.size w0 W) => (show Calls Tryz.prog 7 #[.nilIface] W fun e w' => e = .returned (.int .i64 0) ∧ Below W.heap.size W w' from cN 0 (by decide) W hs)
  have hro := tk_ok hok hi 8 (by omega)
  have hrn := tk_n t i 8
  have hlen : (fulls (t.gs i)).length ≤ 8 := range_len (t.gs i) 8
  rw [← see_one] at cP
  generalize tk t i 8 = t' at *
  generalize t.gs i = g at *
  clear s
  go_enter Tryz.func8, Tryz.ntmps8
  go_upto_region 1 with (fail)
  obtain ⟨X, hX⟩ : ∃ X, w.heap.size = X := ⟨_, rfl⟩
  rw [hX] at P0 ⊢
  simp only [Nat.add_assoc, Nat.reduceAdd]
  clear hX
  generalize (((w.alloc (.cells #[.pointer L.p] 44)).alloc (.cells #[.int .u64 (key : Nat), .int .u64 (v : Nat), .int .u64 (h : Nat)] 48)).alloc (.cells #[.int .i64 3, .int .i64 ky, .int .i64 (i : Nat)] 40)) = w3 at *
  have y0 := P0.out.lc
  have y1 := P0.out.e.c0
  have y2 := P0.out.e.c1
  have y3 := P0.out.e.c2
  have y4 := P0.out.c0
  have y5 := P0.out.c1
  have y6 := P0.out.c2
  go_wp2_with (first
    | (go_at_call 34; (with_reducible refine (cP _ P0.out.two).mono ?_); rintro e w4 ⟨v1, rfl, hK1, hs4⟩; obtain ⟨P4, p4⟩ := P0.out.tl hs4 hro hrn; have HK1 := Lib.hid hK1; clear hK1; have u1 := P4.e.c0; have u2 := P4.e.c1; have u3 := P4.e.c2; have u4 := P4.c2)
    | (go_at_call 35; (with_reducible refine (cQ _ _ _ P4.two).mono ?_); rintro e w5 ⟨v2, rfl, hK2, hs5⟩; obtain ⟨P5, p5⟩ := P4.ref hs5 hrn; have hR1 : group.Kept w3.heap.size w5 v1 g (fulls g) := row_past HK1.out p5 (fun b hb => (by have := P0.out.hd b hb; have := P0.out.sz; omega)); obtain ⟨o1, c1, rfl, hr1⟩ := hR1.rows; obtain ⟨o2, c2, rfl, hr2⟩ := hK2.rows; have HR := Lib.hid (And.intro hr1 hr2); clear hR1 hr1 hr2 hK2)
    | (go_at_call 36; (with_reducible refine (same_any _ _ _ _ _ _ hlen _ HR.out.1 HR.out.2).mono ?_); rintro e w6 ⟨rfl, hb6⟩; have P6 := P5.keep hb6)
    | (go_at_call 7; (with_reducible refine (cN0 _ P6.two.bel).mono ?_); rintro e w7 ⟨rfl, hb7⟩; have P7 := P6.keep hb7))
  go_ret
  exact ⟨rfl, t', 1, by omega, hrn, P7.two, P7.ps⟩
set_option maxRecDepth 20000 in
set_option maxHeartbeats 4000000 in
theorem do_4neg {w0 : World} {ae : String → Addr} (hB : Base ae w0) {T B : Nat} {L : Ln} {m : Mt} {t : Tb} {f : Rf} {k : Nat} {w : World} (s : Two w0 ae T B L m t f t k w) (key h v : Nat) (ky nn : Int) (hk : k + 500 < 9223372036854775807) (hky : key < 18446744073709551616) (hh : h < 18446744073709551616) (hv : v < 18446744073709551616) (hi : nn < 0) :
    Calls Tryz.prog 8 #[.pointer (some ⟨T, 0, none⟩), .pointer (some ⟨f.R, 0, none⟩), .agg #[.pointer L.p], group.entV key v h, .agg #[.int .i64 4, .int .i64 ky, .int .i64 nn]] w fun e w' => e = .returned (.bool true) ∧ ∃ t' n, n ≤ 64 ∧ t'.n = t.n ∧ Two w0 ae T B L (L.see m n) t' f t' (k + n) w' ∧ Past (Dn T B L f t.n) w w' := by
  have P0 := Lib.hid (Dp.new s key h v 4 ky nn)
  have hok := s.rd.ok
  have hlk := looks_le t key h
  have hn6 := okN_le hok.n
  have cN := fun b (hb : b ≤ 16) W (hs : Below w0.heap.size w0 W) => num_err ae b hb W (hB.errs.below hs)
  have cP := fun W (s : Two w0 ae T B L m t f t k W) => scan_off s.rd nn (by omega)
  have d1 : decide (nn < 0) = true := decide_eq_true hi
  clear hi
  clear s
  go_enter Tryz.func8, Tryz.ntmps8
  go_upto_region 1 with (fail)
  obtain ⟨X, hX⟩ : ∃ X, w.heap.size = X := ⟨_, rfl⟩
  rw [hX] at P0 ⊢
  simp only [Nat.add_assoc, Nat.reduceAdd]
  clear hX
  generalize (((w.alloc (.cells #[.pointer L.p] 44)).alloc (.cells #[.int .u64 (key : Nat), .int .u64 (v : Nat), .int .u64 (h : Nat)] 48)).alloc (.cells #[.int .i64 4, .int .i64 ky, .int .i64 nn] 40)) = w3 at *
  have y0 := P0.out.lc
  have y1 := P0.out.e.c0
  have y2 := P0.out.e.c1
  have y3 := P0.out.e.c2
  have y4 := P0.out.c0
  have y5 := P0.out.c1
  have y6 := P0.out.c2
  go_upto_region 20 with (go_at_call 37; (with_reducible refine (cP _ P0.out.two).mono ?_); rintro e w4 ⟨rfl, hb4⟩; have P4 := P0.out.keep hb4; have u1 := P4.e.c0; have u2 := P4.e.c1; have u3 := P4.e.c2; have u4 := P4.c2; have r0 := P4.two.wa.cell0)
  go_quiet (fail)
  go_wp2_with (go_at_call 7; (with_reducible refine (cN 1 (by decide) _ (P4.keep (below_drewN' _ _)).two.bel).mono ?_); rintro e w7 ⟨rfl, hb7⟩; have P7 := (P4.keep (below_drewN' _ _)).keep hb7)
  go_ret
  exact ⟨rfl, t, 0, by omega, rfl, P7.two, P7.ps⟩
set_option maxRecDepth 20000 in
set_option maxHeartbeats 4000000 in
theorem do_4big {w0 : World} {ae : String → Addr} (hB : Base ae w0) {T B : Nat} {L : Ln} {m : Mt} {t : Tb} {f : Rf} {k : Nat} {w : World} (s : Two w0 ae T B L m t f t k w) (key h v : Nat) (ky nn : Int) (hk : k + 500 < 9223372036854775807) (hky : key < 18446744073709551616) (hh : h < 18446744073709551616) (hv : v < 18446744073709551616) (hi : (t.n : Int) ≤ nn) :
    Calls Tryz.prog 8 #[.pointer (some ⟨T, 0, none⟩), .pointer (some ⟨f.R, 0, none⟩), .agg #[.pointer L.p], group.entV key v h, .agg #[.int .i64 4, .int .i64 ky, .int .i64 nn]] w fun e w' => e = .returned (.bool true) ∧ ∃ t' n, n ≤ 64 ∧ t'.n = t.n ∧ Two w0 ae T B L (L.see m n) t' f t' (k + n) w' ∧ Past (Dn T B L f t.n) w w' := by
  have P0 := Lib.hid (Dp.new s key h v 4 ky nn)
  have hok := s.rd.ok
  have hlk := looks_le t key h
  have hn6 := okN_le hok.n
  have cN := fun b (hb : b ≤ 16) W (hs : Below w0.heap.size w0 W) => num_err ae b hb W (hB.errs.below hs)
  have cP := fun W (s : Two w0 ae T B L m t f t k W) => scan_off s.rd nn (by omega)
  have d1 : decide (nn < 0) = false := decide_eq_false (by omega)
  have d2 : decide ((t.n : Int) ≤ nn) = true := decide_eq_true hi
  clear hi
  clear s
  go_enter Tryz.func8, Tryz.ntmps8
  go_upto_region 1 with (fail)
  obtain ⟨X, hX⟩ : ∃ X, w.heap.size = X := ⟨_, rfl⟩
  rw [hX] at P0 ⊢
  simp only [Nat.add_assoc, Nat.reduceAdd]
  clear hX
  generalize (((w.alloc (.cells #[.pointer L.p] 44)).alloc (.cells #[.int .u64 (key : Nat), .int .u64 (v : Nat), .int .u64 (h : Nat)] 48)).alloc (.cells #[.int .i64 4, .int .i64 ky, .int .i64 nn] 40)) = w3 at *
  have y0 := P0.out.lc
  have y1 := P0.out.e.c0
  have y2 := P0.out.e.c1
  have y3 := P0.out.e.c2
  have y4 := P0.out.c0
  have y5 := P0.out.c1
  have y6 := P0.out.c2
  go_upto_region 20 with (go_at_call 37; (with_reducible refine (cP _ P0.out.two).mono ?_); rintro e w4 ⟨rfl, hb4⟩; have P4 := P0.out.keep hb4; have u1 := P4.e.c0; have u2 := P4.e.c1; have u3 := P4.e.c2; have u4 := P4.c2; have r0 := P4.two.wa.cell0)
  go_quiet (fail)
  go_wp2_with (go_at_call 7; (with_reducible refine (cN 1 (by decide) _ (P4.keep (below_drewN' _ _)).two.bel).mono ?_); rintro e w7 ⟨rfl, hb7⟩; have P7 := (P4.keep (below_drewN' _ _)).keep hb7)
  go_ret
  exact ⟨rfl, t, 0, by omega, rfl, P7.two, P7.ps⟩
set_option maxRecDepth 20000 in
set_option maxHeartbeats 4000000 in
theorem do_4in {w0 : World} {ae : String → Addr} (hB : Base ae w0) {T B : Nat} {L : Ln} {m : Mt} {t : Tb} {f : Rf} {k : Nat} {w : World} (s : Two w0 ae T B L m t f t k w) (key h v : Nat) (ky nn : Int) (hk : k + 500 < 9223372036854775807) (hky : key < 18446744073709551616) (hh : h < 18446744073709551616) (hv : v < 18446744073709551616) (i : Nat) (hi : i < t.n) (hni : nn = i) :
    Calls Tryz.prog 8 #[.pointer (some ⟨T, 0, none⟩), .pointer (some ⟨f.R, 0, none⟩), .agg #[.pointer L.p], group.entV key v h, .agg #[.int .i64 4, .int .i64 ky, .int .i64 nn]] w fun e w' => e = .returned (.bool true) ∧ ∃ t' n, n ≤ 64 ∧ t'.n = t.n ∧ Two w0 ae T B L (L.see m n) t' f t' (k + n) w' ∧ Past (Dn T B L f t.n) w w' := by
  have P0 := Lib.hid (Dp.new s key h v 4 ky nn)
  have hok := s.rd.ok
  have hlk := looks_le t key h
  have hn6 := okN_le hok.n
  have cN := fun b (hb : b ≤ 16) W (hs : Below w0.heap.size w0 W) => num_err ae b hb W (hB.errs.below hs)
  subst hni
  have cP := fun W (s : Two w0 ae T B L m t f t k W) => scan_rd s.rd i hi
  have d1 : decide ((i : Int) < 0) = false := decide_eq_false (by omega)
  have d2 : decide ((t.n : Int) ≤ (i : Int)) = false := decide_eq_false (by omega)
  have hii : (i : Int) < (t.n : Int) := by omega
  have hlen : (fulls (t.gs i)).length ≤ 8 := range_len (t.gs i) 8
  have hwk : IntKind.i64.wrap ((k : Int) + 1) = (k : Int) + 1 := IntWalk.i64_in _ (by omega)
  have cG := fun W m' k' (s : Two w0 ae T B L m' t f t k' W) => rentries_any (f.Q i) (t.gs i) W (s.wa.gs i hi)
  rw [← see_one] at cP
  clear s
  go_enter Tryz.func8, Tryz.ntmps8
  go_upto_region 1 with (fail)
  obtain ⟨X, hX⟩ : ∃ X, w.heap.size = X := ⟨_, rfl⟩
  rw [hX] at P0 ⊢
  simp only [Nat.add_assoc, Nat.reduceAdd]
  clear hX
  generalize (((w.alloc (.cells #[.pointer L.p] 44)).alloc (.cells #[.int .u64 (key : Nat), .int .u64 (v : Nat), .int .u64 (h : Nat)] 48)).alloc (.cells #[.int .i64 4, .int .i64 ky, .int .i64 (i : Nat)] 40)) = w3 at *
  have y0 := P0.out.lc
  have y1 := P0.out.e.c0
  have y2 := P0.out.e.c1
  have y3 := P0.out.e.c2
  have y4 := P0.out.c0
  have y5 := P0.out.c1
  have y6 := P0.out.c2
  go_upto_region 20 with (go_at_call 37; (with_reducible refine (cP _ P0.out.two).mono ?_); rintro e w4 ⟨v1, rfl, hK1, hs4⟩; obtain ⟨P4, p4⟩ := P0.out.look hs4; have HK1 := Lib.hid hK1; clear hK1; have u1 := P4.e.c0; have u2 := P4.e.c1; have u3 := P4.e.c2; have u4 := P4.c2; have r0 := P4.two.wa.cell0; have hz4 := p4.size)
  go_quiet (fail)
  have P5 := P4.keep (below_drewN' w4 nq)
  have HK5 := Lib.hid (show group.Kept w3.heap.size (w4.drewN nq) v1 (t.gs i) (fulls (t.gs i)) from row_below HK1.out (below_drewN' w4 nq))
  clear u1 u2 u3 u4 r0 HK1
  generalize w4.drewN nq = w5 at *
  have r1 := P5.two.wa.cell1
  have r2 := P5.two.wa.fz 1
  obtain ⟨P6, p6⟩ := P5.ref P5.two.wa.look rfl
  have HK6 : group.Kept w3.heap.size (w5.setCell ⟨f.R, 1, none⟩ (.int .i64 ((k : Nat) + 1 : Int))) v1 (t.gs i) (fulls (t.gs i)) := row_past HK5.out p6 (fun b hb => (by have := P0.out.hd b hb; have := P0.out.sz; omega))
  obtain ⟨o1, c1, rfl, hr1⟩ := HK6.rows
  have HR1 := Lib.hid hr1
  clear HK6 HK5 hr1
  go_upto_region 23 with (fail)
  generalize w5.setCell ⟨f.R, 1, none⟩ (.int .i64 ((k : Nat) + 1 : Int)) = w6 at *
  have P7 := P6.keep (under.drew_below w6)
  have HR7 := Lib.hid (HR1.out.read (under.drew_below w6))
  have r3 := P6.two.wa.cell0
  have r4 := P6.c2
  have r5 := P6.two.wa.pt i hi
  have hi0 : (0 : Int) ≤ (i : Int) := by omega
  go_region_held3 (fun w' => w'.cell? ⟨f.R, 0, none⟩ = some (.slice (some ⟨f.G, 0, none⟩) t.n f.c) ∧ w'.cell? ⟨X + 2, 2, none⟩ = some (.int .i64 (i : Nat)) ∧ w'.cell? ⟨f.G, i, none⟩ = some (.pointer (some ⟨f.Q i, 0, none⟩)))
    (first
      | exact ⟨PA.two.wa.cell0, PA.c2, PA.two.wa.pt i hi⟩
      | exact ⟨P9.two.wa.cell0, P9.c2, P9.two.wa.pt i hi⟩
      | go_keep)
    (first
      | (go_at_call 38; (with_reducible refine (cG _ _ _ P7.two).mono ?_); rintro e w9 ⟨v2, rfl, hK2, hb9⟩; obtain ⟨o2, c2, rfl, hr2⟩ := hK2.rows; have P9 := P7.keep hb9; have HR9 := Lib.hid (And.intro (HR7.out.read hb9) hr2); clear hr2 hK2)
      | (go_at_call 36; (with_reducible refine (same_any _ _ _ _ _ _ hlen _ HR9.out.1 HR9.out.2).mono ?_); rintro e wA ⟨rfl, hbA⟩; have PA := P9.keep hbA))
  go_wp2
  go_ret
  exact ⟨rfl, t, 1, by omega, rfl, PA.two, PA.ps⟩
end Go.Proofs.YtlgjmnckdjkngaaGreatDoor.table
