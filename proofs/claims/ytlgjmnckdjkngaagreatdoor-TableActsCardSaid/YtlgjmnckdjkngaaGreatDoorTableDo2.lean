/- table: an act, done to the table and to the document's table (amblerlaw09.do). -/
import Derived.Test.YtlgjmnckdjkngaaGreatDoorTableDo
import Derived.Deep.CutRange
import Derived.Deep.CutBlock
import Derived.Deep.RegionHeld3
namespace Go.Proofs.YtlgjmnckdjkngaaGreatDoor.table
open Go.ChangeShapes Go.WideShapes Go.ChangeAt Go.RowKit Go.Shelf swar under trap meter group probe lens tail call
attribute [local go_sem] Oper.semAt_some stage.pureUpon move.stepUpon
set_option linter.unusedSimpArgs false
set_option linter.unusedVariables false

theorem Dp.newset {w0 : World} {ae : String → Addr} {T B : Nat} {L : Ln} {m : Mt} {t : Tb} {f : Rf} {u : Tb} {k N X key h v : Nat} {kd ky nn : Int} {w W : World} (s : Dp w0 ae T B L m t f u k N X key h v kd ky nn w W) (hG : f.G < X) (h0 : w0.heap.size ≤ X) {Y : Nat} (hY : X + 2 < Y) (i : Nat) (x : Value) : Dp w0 ae T B L m t f u k N X key h v kd ky nn w (W.setCell ⟨Y, i, none⟩ x) := by
  have p : Past [Y] W (W.setCell ⟨Y, i, none⟩ x) := (Past.refl [Y] W).store (p := ⟨Y, i, none⟩) (.inl (by simp)) _
  have hw := s.hX
  exact ⟨s.two.newset (by omega) (by omega) (by rw [s.n]; exact s.out (by omega)) i x, p.cell s.lc (by simp; omega), s.e.past p (by simp; omega), p.cell s.c0 (by simp; omega), p.cell s.c1 (by simp; omega), p.cell s.c2 (by simp; omega), s.ps.store (p := ⟨Y, i, none⟩) (.inr (by show w.heap.size ≤ Y; omega)) x, s.n, s.hX, s.hd⟩
/-- behind the document's Least: its box is new, or made ahead -/
def Df (w0 : World) (ae : String → Addr) (T B : Nat) (L : Ln) (m : Mt) (t : Tb) (f : Rf) (u : Tb) (k N X key h v : Nat) (kd ky nn : Int) (w : World) (V Y lk lv lh : Nat) (W : World) : Prop := Dp w0 ae T B L m t f u k N X key h v kd ky nn w W ∧ EBox Y lk lv lh W ∧ EBox V lk lv lh W
section
variable {w0 : World} {ae : String → Addr} {T B : Nat} {L : Ln} {m : Mt} {t : Tb} {f : Rf} {u : Tb} {k N X key h v : Nat} {kd ky nn : Int} {w W : World} {V lk lv lh : Nat}
theorem Df.new (s : Dp w0 ae T B L m t f u k N X key h v kd ky nn w W) (hV : EBox V lk lv lh W) : Df w0 ae T B L m t f u k N X key h v kd ky nn w V W.heap.size lk lv lh (W.alloc (.cells #[.int .u64 (lk : Nat), .int .u64 (lv : Nat), .int .u64 (lh : Nat)] 48)) :=
  ⟨s.keep (new_block W _), EBox.new lk lv lh W, hV.keep (new_block W _)⟩
theorem Df.old (s : Dp w0 ae T B L m t f u k N X key h v kd ky nn w W) (hV : EBox V lk lv lh W) (hG : f.G < X) (h0 : w0.heap.size ≤ X) {Y a b c : Nat} (hz : EBox Y a b c W) (hY : X + 2 < Y) (hne : V ≠ Y) : Df w0 ae T B L m t f u k N X key h v kd ky nn w V Y lk lv lh (set3 Y lk lv lh W) :=
  ⟨((s.newset hG h0 hY 0 _).newset hG h0 hY 1 _).newset hG h0 hY 2 _, hz.set lk lv lh, hV.other hne lk lv lh⟩
end
set_option maxRecDepth 20000 in
set_option maxHeartbeats 4000000 in
theorem do_5 {w0 : World} {ae : String → Addr} (hB : Base ae w0) {T B : Nat} {L : Ln} {m : Mt} {t : Tb} {f : Rf} {k : Nat} {w : World} (s : Two w0 ae T B L m t f t k w) (key h v : Nat) (ky nn : Int) (hk : k + 500 < 9223372036854775807) (hky : key < 18446744073709551616) (hh : h < 18446744073709551616) (hv : v < 18446744073709551616) :
    Calls Tryz.prog 8 #[.pointer (some ⟨T, 0, none⟩), .pointer (some ⟨f.R, 0, none⟩), .agg #[.pointer L.p], group.entV key v h, .agg #[.int .i64 5, .int .i64 ky, .int .i64 nn]] w fun e w' => e = .returned (.bool true) ∧ ∃ t' n, n ≤ 64 ∧ t'.n = t.n ∧ Two w0 ae T B L (L.see m n) t' f t' (k + n) w' ∧ Past (Dn T B L f t.n) w w' := by
  have P0 := Lib.hid (Dp.new s key h v 5 ky nn)
  have hok := s.rd.ok
  have hlk := looks_le t key h
  have hn6 := okN_le hok.n
  have cN := fun b (hb : b ≤ 16) W (hs : Below w0.heap.size w0 W) => num_err ae b hb W (hB.errs.below hs)
  have hG := s.wa.lt
  have h0 := s.bel.size
  obtain ⟨kn, hkn⟩ : ∃ kn : Nat, IntKind.u64.wrap nn = (kn : Nat) := ⟨(IntKind.u64.wrap nn).toNat, by rw [IntKind.wrap_u64]; omega⟩
  have cP := fun W (s : Two w0 ae T B L m t f t k W) => least_tab s.rd h kn
  have cA := fun W m' (s : Two w0 ae T B L m' t f t k W) => rtall_any f t hok.n k W s.wa
  have hle := ents_le t t.n
  have cL := fun o c W (hE : EntsAt o (ents t t.n) W) => rtleast_any o c (ents t t.n).length (ents t t.n) rfl (by omega) h kn W hE
  rw [show lfold h kn none (ents t t.n) = leastE t h kn from rfl] at cL
  generalize sK (leastE t h kn) = lk at *
  generalize sV (leastE t h kn) = lv at *
  generalize sH (leastE t h kn) = lh at *
  generalize (leastE t h kn).isSome = lb at *
  clear hlk hle
  clear s
  go_enter Tryz.func8, Tryz.ntmps8
  go_upto_region 1 with (fail)
  obtain ⟨X, hX⟩ : ∃ X, w.heap.size = X := ⟨_, rfl⟩
  rw [hX] at P0 hG h0 ⊢
  simp only [Nat.add_assoc, Nat.reduceAdd]
  clear hX
  generalize (((w.alloc (.cells #[.pointer L.p] 44)).alloc (.cells #[.int .u64 (key : Nat), .int .u64 (v : Nat), .int .u64 (h : Nat)] 48)).alloc (.cells #[.int .i64 5, .int .i64 ky, .int .i64 nn] 40)) = w3 at *
  have y0 := P0.out.lc
  have y1 := P0.out.e.c0
  have y2 := P0.out.e.c1
  have y3 := P0.out.e.c2
  have y4 := P0.out.c0
  have y5 := P0.out.c1
  have y6 := P0.out.c2
  go_upto_region 26 with (go_at_call 39; (with_reducible refine (cP _ P0.out.two).mono ?_); rintro e w4 ⟨rfl, hs4⟩; obtain ⟨P4, p4⟩ := P0.out.look hs4; have V5 := EBox.new lk lv lh w4; have P5 := P4.keep (new_block w4 (.cells #[.int .u64 (lk : Nat), .int .u64 (lv : Nat), .int .u64 (lh : Nat)] 48)); have hz4 := P4.sz)
  generalize w4.heap.size = V at *
  generalize w4.alloc (.cells #[.int .u64 (lk : Nat), .int .u64 (lv : Nat), .int .u64 (lh : Nat)] 48) = w5 at *
  have hV5 := V5.lt
  have u1 := P5.e.c2
  have u2 := P5.c2
  have n5 : V ≠ w5.heap.size := by omega
  clear hs4 p4 y0 y1 y2 y3 y4 y5 y6
  go_region_held3 (fun w' => w'.cell? ⟨X + 1, 2, none⟩ = some (.int .u64 (h : Nat)) ∧ w'.cell? ⟨X + 2, 2, none⟩ = some (.int .i64 nn))
    (first
      | exact ⟨P9.e.c2, P9.c2⟩
      | exact ⟨P8.e.c2, P8.c2⟩
      | exact ⟨(P8.keep (new_block w8 _)).e.c2, (P8.keep (new_block w8 _)).c2⟩
      | exact ⟨(P9.keep (new_block w9 _)).e.c2, (P9.keep (new_block w9 _)).c2⟩
      | exact ⟨(Df.old P9 V9 hG h0 z9 (by omega) n5).1.e.c2, (Df.old P9 V9 hG h0 z9 (by omega) n5).1.c2⟩
      | exact ⟨(Df.old P9 V9 hG h0 z9 (by omega) n8).1.e.c2, (Df.old P9 V9 hG h0 z9 (by omega) n8).1.c2⟩
      | go_keep)
    (first
      | (go_at_call 41; (with_reducible refine Calls.mono (cA _ _ (P5.keep (under.drew_below w5)).two) ?_); rintro e w8 ⟨v8, rfl, hK8, hb8⟩; have hb7 : Below w5.heap.size w5 w8 := under.below_step (under.drew_below w5) hb8; have P8 := P5.keep hb7; have V8 := V5.keep hb7; have n8 : V ≠ w8.heap.size := (by have := hb7.size; omega); have hz8 := hb7.size; obtain ⟨o8, c8, rfl, hE8'⟩ := hK8.rows; have hE8 : EntsAt o8 (ents t t.n) w8 := hE8')
      | (go_at_call 41; (with_reducible refine Calls.mono (cA _ _ (P5.keep (under.below_step (under.drew_below w5) (new_block w5.drew (.cells #[.int .u64 0, .int .u64 0, .int .u64 0] 48)))).two) ?_); rintro e w8 ⟨v8, rfl, hK8, hb8⟩; have hb7 : Below w5.heap.size w5 w8 := under.below_step (under.below_step (under.drew_below w5) (new_block w5.drew (.cells #[.int .u64 0, .int .u64 0, .int .u64 0] 48))) hb8; have P8 := P5.keep hb7; have V8 := V5.keep hb7; have n8 : V ≠ w8.heap.size := (by have := hb7.size; omega); have hz8 := hb7.size; obtain ⟨o8, c8, rfl, hE8'⟩ := hK8.rows; have hE8 : EntsAt o8 (ents t t.n) w8 := hE8'; have z8 : EBox w5.heap.size 0 0 0 w8 := EBox.keep (EBox.new 0 0 0 w5.drew) hb8)
      | (go_at_call 40; (with_reducible refine Calls.mono (cL _ _ _ hE8) ?_); rintro e w9 ⟨rfl, hb9⟩; have P9 := P8.keep hb9; have V9 := V8.keep hb9; try (have z9 : EBox w5.heap.size 0 0 0 w9 := z8.keep hb9; have g0 := z9.c0; have g1 := z9.c1; have g2 := z9.c2; have gf := z9.fz))
      | (go_at_call 40; (with_reducible refine Calls.mono (cL _ _ _ (EntsAt.read hE8 (new_block w8 _))) ?_); rintro e w9 ⟨rfl, hb9⟩; have P9 := (P8.keep (new_block w8 _)).keep hb9; have V9 := (V8.keep (new_block w8 _)).keep hb9; have z9 : EBox w8.heap.size 0 0 0 w9 := (EBox.new 0 0 0 w8).keep hb9; have g0 := z9.c0; have g1 := z9.c1; have g2 := z9.c2; have gf := z9.fz))
  all_goals first
    | (have F := Df.old P9 V9 hG h0 z9 (by omega) n5; have hYX : X + 2 < w5.heap.size := (by omega); obtain ⟨wf, hwf⟩ : ∃ wf, set3 w5.heap.size lk lv lh w9 = wf := ⟨_, rfl⟩; rw [hwf] at F; unfold set3 at hwf; rw [hwf]; clear hwf; generalize w5.heap.size = Y at F hYX ⊢)
    | (have F := Df.old P9 V9 hG h0 z9 (by omega) n8; have hYX : X + 2 < w8.heap.size := (by omega); obtain ⟨wf, hwf⟩ : ∃ wf, set3 w8.heap.size lk lv lh w9 = wf := ⟨_, rfl⟩; rw [hwf] at F; unfold set3 at hwf; rw [hwf]; clear hwf; generalize w8.heap.size = Y at F hYX ⊢)
    | (have F := Df.new P9 V9; have hYX : X + 2 < w9.heap.size := P9.sz; generalize w9.alloc (.cells #[.int .u64 (lk : Nat), .int .u64 (lv : Nat), .int .u64 (lh : Nat)] 48) = wf at F ⊢; generalize w9.heap.size = Y at F hYX ⊢)
  all_goals
    have HF := Lib.hid F
    have r0 := HF.out.1.two.wa.cell0
    have r1 := HF.out.1.two.wa.cell1
    have r2 := HF.out.1.two.wa.fz 1
    have hwk : IntKind.i64.wrap ((k : Int) + (t.n : Int)) = (k : Int) + (t.n : Int) := IntWalk.i64_in _ (by omega)
    clear F
    go_upto_region 27 with (fail)
    refine wp_region_tail_drew 12 (by kernel_rfl) (by kernel_rfl) ?_
    simp only [List.take_succ_cons, List.take_zero, List.drop_succ_cons, List.drop_zero]
    repeat (quiet_step (fail))
    refine wpQuiet_nil ?_
    intro wq hwq
    obtain ⟨q, rfl⟩ := hwq
    have P10 := HF.out.1.keep (below_drewN' _ q)
    obtain ⟨P11, p11⟩ := P10.ref (P10.two.wa.setK (k + t.n)) rfl
    have hc : ((k + t.n : Nat) : Int) = (k : Int) + (t.n : Int) := by omega
    rw [hc] at P11 p11
    have V11 := (HF.out.2.2.keep (below_drewN' _ q)).past p11 (P10.out (by omega))
    have Y11 := (HF.out.2.1.keep (below_drewN' _ q)).past p11 (P10.out (by omega))
    have g0 := V11.c0
    have g1 := V11.c1
    have g2 := V11.c2
    have g3 := Y11.c0
    have g4 := Y11.c1
    have g5 := Y11.c2
    go_wp2
    go_ret
    exact ⟨by simp, t, t.n, hn6, rfl, P11.two, P11.ps⟩
end Go.Proofs.YtlgjmnckdjkngaaGreatDoor.table
