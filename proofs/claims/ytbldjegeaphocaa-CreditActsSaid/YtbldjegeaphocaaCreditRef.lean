/- credit: the document's ledger. -/
import Derived.Test.YtbldjegeaphocaaCreditAt
namespace Go.Proofs.Ytbldjegeaphocaa.credit
open Go.RowKit under trap flt
set_option linter.unusedSimpArgs false
set_option linter.unusedVariables false
@[local go_sem] theorem run_store_f' (P : Program) (w : World) (a : Addr) (m : Mode) (k : FloatKind) (b : Nat) : (store a (.float k b) m).run P w = stored P w a (.float k b) m := run_store P w a _ m rfl

theorem LStep.id {B o : Nat} {l : Lg} {w : World} (h : LAt B o l w) (x : Int) (hx : x = l.b) : LStep B o ⟨x, l.r⟩ w w := by subst hx; exact LStep.of h (Below.refl _ w)
theorem rdeposit_any (B o : Nat) (l : Lg) (hl : l.Ok) (n : Int) (w : World) (h : LAt B o l w) : Calls Try.prog 9 #[.pointer (some ⟨B, o, none⟩), .int .i64 n] w fun e w' => e = .returned (.int .i64 (dep l.b n)) ∧ LStep B o (l.dep n) w w' := by
  have hs := LStep.setB (LStep.of h (Below.refl _ w)) (l.b + dep l.b n)
  have b0 := hl.b0
  have b1 := hl.b1
  have hd := dep_at n b1
  have HX := Lib.hid (show dep l.b n = max 0 (min n (1099511627776 - l.b)) from rfl)
  have h0 := h.b
  have hf := h.fz o
  have HH := Lib.hid h
  change Calls _ _ _ _ fun e w' => _ ∧ LStep B o ⟨l.b + dep l.b n, l.r⟩ w w'
  by_cases d1 : n < 1
  · have d1' : decide (n < 1) = true := decide_eq_true d1
    have e0 : dep l.b n = 0 := by have := HX.out; omega
    rw [e0]
    clear h hl HX hs hd
    go_enter Try.func9, Try.ntmps9
    go_wp2
    go_ret
    exact ⟨rfl, LStep.id HH.out _ (by omega)⟩
  · have d1' : decide (n < 1) = false := decide_eq_false d1
    by_cases d2 : 1099511627776 - l.b < n
    · have e0 : dep l.b n = 1099511627776 - l.b := by have := HX.out; omega
      rw [e0] at hs ⊢
      have d2' : decide (1099511627776 - l.b < n) = true := decide_eq_true d2
      clear h hl HX hd e0
      generalize l.b = x at *
      go_enter Try.func9, Try.ntmps9
      go_wp2
      go_ret
      exact ⟨rfl, hs⟩
    · have e0 : dep l.b n = n := by have := HX.out; omega
      rw [e0] at hs ⊢
      have d2' : decide (1099511627776 - l.b < n) = false := decide_eq_false d2
      have d3 : l.b + n ≤ 1099511627776 := by omega
      clear h hl HX hd e0
      generalize l.b = x at *
      go_enter Try.func9, Try.ntmps9
      go_wp2
      go_ret
      exact ⟨rfl, hs⟩
theorem rtake_any (B o : Nat) (l : Lg) (hl : l.Ok) (n : Int) (w : World) (h : LAt B o l w) : Calls Try.prog 14 #[.pointer (some ⟨B, o, none⟩), .int .i64 n] w fun e w' => e = .returned (.int .i64 (takes l.b n)) ∧ LStep B o (l.take n) w w' := by
  have hs := LStep.setB (LStep.of h (Below.refl _ w)) (l.b - takes l.b n)
  have b0 := hl.b0
  have b1 := hl.b1
  have hd := takes_at n b0
  have HX := Lib.hid (show takes l.b n = max 0 (min n l.b) from rfl)
  have h0 := h.b
  have hf := h.fz o
  have HH := Lib.hid h
  change Calls _ _ _ _ fun e w' => _ ∧ LStep B o ⟨l.b - takes l.b n, l.r⟩ w w'
  by_cases d1 : n < 1
  · have d1' : decide (n < 1) = true := decide_eq_true d1
    have e0 : takes l.b n = 0 := by have := HX.out; omega
    rw [e0]
    clear h hl HX hs hd
    go_enter Try.func14, Try.ntmps14
    go_wp2
    go_ret
    exact ⟨rfl, LStep.id HH.out _ (by omega)⟩
  · have d1' : decide (n < 1) = false := decide_eq_false d1
    by_cases d2 : l.b < n
    · have e0 : takes l.b n = l.b := by have := HX.out; omega
      rw [e0] at hs ⊢
      have d2' : decide (l.b < n) = true := decide_eq_true d2
      rw [Int.sub_self] at hs ⊢
      clear h hl HX hd e0
      generalize l.b = x at *
      go_enter Try.func14, Try.ntmps14
      go_wp2
      go_ret
      exact ⟨rfl, hs⟩
    · have e0 : takes l.b n = n := by have := HX.out; omega
      rw [e0] at hs ⊢
      have d2' : decide (l.b < n) = false := decide_eq_false d2
      clear h hl HX hd e0
      generalize l.b = x at *
      go_enter Try.func14, Try.ntmps14
      go_wp2
      go_ret
      exact ⟨rfl, hs⟩
theorem rearn_any (B o : Nat) (l : Lg) (hl : l.Ok) (f : Nat) (hf6 : f < 18446744073709551616) (w : World) (h : LAt B o l w) : Calls Try.prog 11 #[.pointer (some ⟨B, o, none⟩), .float .f64 f] w fun e w' => e = .returned (.int .i64 (l.earnN f)) ∧ LStep B o (l.earn f) w w' := by
  have c1 := rwhole_any f hf6 w
  have c2 := rdeposit_any B o l hl (wn f) w h
  have hd := hl.dep (wn f)
  obtain ⟨ha, hs2⟩ := rest_add hl.r1 (wp_lt f)
  have f1 := fun (t : TypeId) (w : World) => run_float_arith (P := Try.prog) w .add t .f64 _ _ _ ha
  have g1 := ge_one (s := l.sum f) (by have := hs2; unfold w2 at this; unfold inf; exact Nat.lt_trans this (by decide))
  unfold Lg.earn Lg.earnN
  by_cases hge : w1 ≤ l.sum f
  · rw [if_pos hge, if_pos hge]
    rw [decide_eq_true hge] at g1
    obtain ⟨hb, hs3⟩ := rest_sub hge hs2
    have f2 := fun (t : TypeId) (w : World) => run_float_arith (P := Try.prog) w .sub t .f64 _ _ _ hb
    have c3 := fun w' (h' : LAt B o (l.dep (wn f)) w') => rdeposit_any B o (l.dep (wn f)) hd 1 w' h'
    have k1 := (dep_at (wn f) hl.b1)
    have k2 := (dep_at 1 hd.b1)
    have k3 := hl.b0
    have k4 := hl.b1
    have k5 := hd.b0
    clear h hl hd ha hb hge hs2 hs3
    unfold Lg.sum at *
    generalize wn f = n at *
    generalize wp f = p at *
    go_enter Try.func11, Try.ntmps11
    go_wp2_with (first
      | (go_at_call 19; refine c1.mono ?_; rintro e w' ⟨rfl, rfl⟩)
      | (go_at_call 9; (with_reducible refine c4.mono ?_); rintro e w5 ⟨rfl, s5⟩; have a5 := s5.at'; have z0 := a5.b; have z1 := a5.r; have z2 := a5.fz; have s6 := (s2.trans s5).setR (fsub (fadd l.r p) w1))
      | (go_at_call 9; (with_reducible refine c2.mono ?_); rintro e w2 ⟨rfl, s2⟩; have a2 := s2.at'; have y0 := a2.b; have y1 : w2.cell? ⟨B, o + 1, none⟩ = some (.float .f64 l.r) := a2.r; have y2 := a2.fz; have c4 := c3 _ s2.at'))
    go_ret
    exact ⟨rfl, s6⟩
  · rw [if_neg hge, if_neg hge]
    rw [decide_eq_false hge] at g1
    clear h hl hd ha hge hs2
    unfold Lg.sum at *
    generalize wn f = n at *
    generalize wp f = p at *
    go_enter Try.func11, Try.ntmps11
    go_wp2_with (first
      | (go_at_call 19; refine c1.mono ?_; rintro e w' ⟨rfl, rfl⟩)
      | (go_at_call 9; (with_reducible refine c2.mono ?_); rintro e w2 ⟨rfl, s2⟩; have a2 := s2.at'; have y0 := a2.b; have y1 : w2.cell? ⟨B, o + 1, none⟩ = some (.float .f64 l.r) := a2.r; have y2 := a2.fz; have s3 := s2.setR (fadd l.r p)))
    go_ret
    exact ⟨rfl, s3⟩
end Go.Proofs.Ytbldjegeaphocaa.credit
