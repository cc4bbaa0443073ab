/- Dir: where a directory lies, and what its calls do: the real one. Plain facts and laws for the walks. -/
import Derived.Test.YtmbdfoobnkanlaaDoorSplR
import Derived.Maps.AppendAt
import Derived.LoopTactic
import Derived.Handy
import Derived.Deep.RegionWith
import Derived.Deep.RegionHeld3
namespace Go.Proofs.YtmbdfoobnkanlaaDoor.dir
open Go.ChangeShapes Go.WideShapes Go.ChangeAt Go.RowKit split trap errs
set_option linter.unusedSimpArgs false
set_option linter.unusedVariables false

/-! ### numbers -/
theorem two_le (d : Nat) (hd : d ≤ 5) : 2 ^ d ≤ 32 := Nat.pow_le_pow_right (by decide) hd
theorem two_pos (d : Nat) : 0 < 2 ^ d := Nat.pow_pos (by decide)
theorem tp_lt (h d : Nat) (hh : h < 18446744073709551616) (hd : d ≤ 5) : h / 2 ^ (64 - d) < 2 ^ d := top_lt h d hh (by omega)
theorem wrap_two (d : Nat) (hd : d ≤ 5) : wrap64 ((2 : Int) ^ d) = ((2 ^ d : Nat) : Int) := by
  rw [cast_pow, i64_nat (2 ^ d) (by have := two_le d hd; omega)]
/-- the first entry of a prefix of depth e, and the first one behind it -/
def fr (d p e : Nat) : Nat := p * 2 ^ (d - e)
def to (d p e : Nat) : Nat := (p + 1) * 2 ^ (d - e)
theorem fr_lt (d p e : Nat) : fr d p e < to d p e := by
  unfold fr to; rw [Nat.add_mul]; have := two_pos (d - e); omega
theorem to_le (d p e : Nat) (he : e ≤ d) (hp : p < 2 ^ e) : to d p e ≤ 2 ^ d := by
  have h : (p + 1) * 2 ^ (d - e) ≤ 2 ^ e * 2 ^ (d - e) := Nat.mul_le_mul_right _ hp
  rw [← Nat.pow_add, show e + (d - e) = d by omega] at h
  exact h
theorem low_div (d p e : Nat) (he : e ≤ d) (hd : d ≤ 64) : lowN p e / 2 ^ (64 - d) = fr d p e := by
  unfold lowN fr
  rw [show 64 - e = (d - e) + (64 - d) by omega, Nat.pow_add, ← Nat.mul_assoc]
  exact Nat.mul_div_cancel _ (two_pos _)
theorem high_div (d p e : Nat) (he : e ≤ d) (hd : d ≤ 64) : (lowN p e + (2 ^ (64 - e) - 1)) / 2 ^ (64 - d) + 1 = to d p e := by
  have hA := two_pos (64 - d)
  have hB := two_pos (d - e)
  have e1 : lowN p e + (2 ^ (64 - e) - 1) = ((p + 1) * 2 ^ (d - e) - 1) * 2 ^ (64 - d) + (2 ^ (64 - d) - 1) := by
    have e2 : 2 ^ (64 - e) = 2 ^ (d - e) * 2 ^ (64 - d) := by rw [← Nat.pow_add]; congr 1; omega
    unfold lowN
    rw [e2]
    generalize 2 ^ (64 - d) = A at hA ⊢
    generalize 2 ^ (d - e) = B at hB ⊢
    obtain ⟨B', rfl⟩ : ∃ B', B = B' + 1 := ⟨B - 1, by omega⟩
    obtain ⟨A', rfl⟩ : ∃ A', A = A' + 1 := ⟨A - 1, by omega⟩
    have e3 : (p + 1) * (B' + 1) - 1 = p * (B' + 1) + B' := by rw [Nat.add_mul]; omega
    rw [e3, Nat.add_mul (p * (B' + 1)) B', Nat.mul_assoc]
    have e4 : (B' + 1) * (A' + 1) = B' * (A' + 1) + (A' + 1) := by rw [Nat.add_mul]; omega
    rw [e4]; omega
  rw [e1, Nat.mul_comm, Nat.mul_add_div hA, Nat.div_eq_of_lt (by omega)]
  unfold to
  have : 0 < (p + 1) * 2 ^ (d - e) := Nat.mul_pos (by omega) hB
  omega
/-- which entries are a prefix's -/
theorem in_iff (d p e i : Nat) : i / 2 ^ (d - e) = p ↔ fr d p e ≤ i ∧ i < to d p e := by
  unfold fr to
  have h := two_pos (d - e)
  rw [Nat.div_eq_iff h]
  rw [Nat.add_mul]
  constructor
  · intro h; omega
  · intro h; omega
theorem low_at (d i e : Nat) (he : e ≤ d) (hd : d ≤ 64) : lowN i d / 2 ^ (64 - e) = i / 2 ^ (d - e) := by
  unfold lowN
  rw [show 64 - e = (64 - d) + (d - e) by omega, Nat.pow_add, ← Nat.div_div_eq_div_mul, Nat.mul_div_cancel _ (two_pos _)]
/-- there is no such prefix of a directory of depth d -/
def NoSpan (d : Nat) (p i : Int) : Prop := (d : Int) < i ∨ NoPrefix p i
theorem span_cases (d : Nat) (hd : d ≤ 5) (p i : Int) : NoSpan d p i ∨ ∃ q e : Nat, p = q ∧ i = e ∧ e ≤ d ∧ q < 2 ^ e := by
  by_cases h : NoSpan d p i
  · exact .inl h
  · refine .inr ?_
    unfold NoSpan NoPrefix at h
    obtain ⟨e, rfl⟩ := Int.eq_ofNat_of_zero_le (show 0 ≤ i by omega)
    obtain ⟨q, rfl⟩ := Int.eq_ofNat_of_zero_le (show 0 ≤ p by omega)
    refine ⟨q, e, rfl, rfl, by omega, ?_⟩
    have h2 : ¬ ((2 : Int) ^ ((e : Nat) : Int).toNat ≤ (q : Int)) := fun h2 => h (.inr (.inr (.inr (.inr h2))))
    rw [Int.toNat_natCast, cast_pow] at h2
    omega
/-- all entries of a span are n; one entry is n -/
def setF (f : Nat → Nat) (a b n : Nat) : Nat → Nat := fun j => if a ≤ j ∧ j < b then n else f j
theorem setF_none (f : Nat → Nat) (a n : Nat) : setF f a a n = f := by
  funext j; unfold setF; rw [if_neg (by omega)]
theorem setF_next (f : Nat → Nat) (a b n j : Nat) (hab : a ≤ b) : setF f a (b + 1) n j = if j = b then n else setF f a b n j := by
  unfold setF
  by_cases e : j = b
  · subst e; rw [if_pos ⟨hab, by omega⟩, if_pos rfl]
  · rw [if_neg e]
    have e2 : (a ≤ j ∧ j < b + 1) = (a ≤ j ∧ j < b) := by apply propext; omega
    simp only [e2]

/-! ### where a directory lies -/
structure DAt (B d : Nat) (f : Nat → Nat) (w : World) : Prop where
  d5 : d ≤ 5
  dep : w.cell? ⟨B, 0, none⟩ = some (.int .i64 d)
  ent : ∀ j, j < 32 → w.cell? ⟨B, 1 + j, none⟩ = some (.int .i64 (f j : Nat))
  fz : ∀ i, w.frozen? ⟨B, i, none⟩ = false
theorem DAt.lt {B d : Nat} {f : Nat → Nat} {w : World} (h : DAt B d f w) : B < w.heap.size := World.block_lt_of_cell? w _ h.dep
theorem DAt.of_block {B d : Nat} {f : Nat → Nat} {w w' : World} (h : DAt B d f w) (he : w'.heap[B]? = w.heap[B]?) : DAt B d f w' :=
  ⟨h.d5, (World.cell?_of_block (w := w) he).trans h.dep, fun j hj => (World.cell?_of_block (w := w) he).trans (h.ent j hj), fun i => (World.frozen?_of_block (w := w) he).trans (h.fz i)⟩
theorem DAt.below {B d : Nat} {f : Nat → Nat} {w w' : World} (h : DAt B d f w) (hb : Below w.heap.size w w') : DAt B d f w' := h.of_block (hb.block B h.lt)
theorem DAt.past {B d : Nat} {f : Nat → Nat} {w w' : World} {l : List Nat} (h : DAt B d f w) (hb : Past l w w') (hd : B ∉ l) : DAt B d f w' := h.of_block (hb.block B h.lt hd)
theorem DAt.drew {B d : Nat} {f : Nat → Nat} {w : World} (h : DAt B d f w) : DAt B d f w.drew := h.of_block rfl
theorem DAt.drewN {B d : Nat} {f : Nat → Nat} {w : World} (h : DAt B d f w) (q : Nat) : DAt B d f (w.drewN q) := h.of_block rfl
theorem DAt.congr {B d : Nat} {f g : Nat → Nat} {w : World} (h : DAt B d f w) (e : ∀ j, j < 32 → g j = f j) : DAt B d g w :=
  ⟨h.d5, h.dep, fun j hj => by rw [h.ent j hj, e j hj], h.fz⟩
theorem DAt.put {B d : Nat} {f : Nat → Nat} {w : World} (h : DAt B d f w) (i n : Nat) (hi : i < 32) (g : Nat → Nat) (hg : ∀ j, g j = if j = i then n else f j) :
    DAt B d g (w.setCell ⟨B, 1 + i, none⟩ (.int .i64 (n : Nat))) := by
  refine ⟨h.d5, ?_, fun j hj => ?_, fun j => ?_⟩
  · rw [World.cell?_setCell_other _ _ _ _ (by intro e; injection e with _ e _; omega)]; exact h.dep
  · by_cases e : j = i
    · subst e; rw [hg, if_pos rfl]; simp [World.cell?_setCell_same', h.ent j hi]
    · rw [World.cell?_setCell_other _ _ _ _ (by intro e; injection e with _ e _; omega), hg, if_neg e]; exact h.ent j hj
  · simp [go_sem, h.fz]
theorem below_drew {w w' : World} (h : Below w.drew.heap.size w.drew w') : Below w.heap.size w w' := ⟨h.os, h.tape, h.output, h.size, h.block⟩
theorem drewN_below (w : World) (q : Nat) : Below w.heap.size w (w.drewN q) := ⟨rfl, rfl, rfl, Nat.le_refl _, fun _ _ => rfl⟩

/-! ### the calls that don't change it -/
theorem raise_nil (w : World) : Calls Tryd.prog 30 #[.nilIface] w fun e w' => e = .returned (.tuple #[]) ∧ w = w' := by
  go_enter Tryd.func30, Tryd.ntmps30
  go_wp2
  go_end0
  exact ⟨rfl, rfl⟩
theorem must_int (v : Value) (w : World) : Calls Tryd.prog 36 #[v, .nilIface] w fun e w' => e = .returned v ∧ w = w' := by
  go_enter Tryd.func36, Tryd.ntmps36
  go_wp2_with (go_at_call 30; refine (raise_nil _).mono ?_; rintro e w' ⟨rfl, rfl⟩)
  go_ret
  exact ⟨rfl, rfl⟩
theorem must_u64 (v : Value) (w : World) : Calls Tryd.prog 43 #[v, .nilIface] w fun e w' => e = .returned v ∧ w = w' := by
  go_enter Tryd.func43, Tryd.ntmps43
  go_wp2_with (go_at_call 30; refine (raise_nil _).mono ?_; rintro e w' ⟨rfl, rfl⟩)
  go_ret
  exact ⟨rfl, rfl⟩
theorem depth_any (B d : Nat) (f : Nat → Nat) (w : World) (h : DAt B d f w) :
    Calls Tryd.prog 11 #[.pointer (some ⟨B, 0, none⟩)] w fun e w' => e = .returned (.int .i64 d) ∧ w = w' := by
  have c := h.dep
  go_enter Tryd.func11, Tryd.ntmps11
  go_wp2
  go_ret
  exact ⟨rfl, rfl⟩
theorem len_any (B d : Nat) (f : Nat → Nat) (w : World) (h : DAt B d f w) :
    Calls Tryd.prog 19 #[.pointer (some ⟨B, 0, none⟩)] w fun e w' => e = .returned (.int .i64 (2 ^ d : Nat)) ∧ w = w' := by
  have c := h.dep
  have hd := h.d5
  have e1 := wrap_two d hd
  go_enter Tryd.func19, Tryd.ntmps19
  go_wp2
  go_ret
  exact ⟨by rw [e1]; rfl, rfl⟩
theorem number_at (B d : Nat) (f : Nat → Nat) (w : World) (h : DAt B d f w) (n : Nat) (hn : n < 18446744073709551616) :
    Calls Tryd.prog 38 #[.pointer (some ⟨B, 0, none⟩), .int .u64 n] w fun e w' => e = .returned (.int .i64 ((n / 2 ^ (64 - d) : Nat) : Int)) ∧ w = w' := by
  have c := h.dep
  have hd := h.d5
  have cT := fun W => top_yes n d hn (show d ≤ 16 by omega) W
  generalize n / 2 ^ (64 - d) = t at cT
  go_enter Tryd.func38, Tryd.ntmps38
  go_wp2_with (first
    | (go_at_call 49; refine (cT _).mono ?_; rintro e w' ⟨rfl, rfl⟩)
    | (go_at_call 36; refine (must_int _ _).mono ?_; rintro e w' ⟨rfl, rfl⟩))
  go_ret
  exact ⟨rfl, rfl⟩
theorem at_any (B d : Nat) (f : Nat → Nat) (w : World) (h : DAt B d f w) (n : Nat) (hn : n < 18446744073709551616) :
    Calls Tryd.prog 20 #[.pointer (some ⟨B, 0, none⟩), .int .u64 n] w fun e w' => e = .returned (.int .i64 (f (n / 2 ^ (64 - d)) : Nat)) ∧ ∃ q, w' = w.drewN q := by
  have hd := h.d5
  have cN := fun q => number_at B d f (w.drewN q) (h.drewN q) n hn
  have ht : n / 2 ^ (64 - d) < 32 := Nat.lt_of_lt_of_le (tp_lt n d hn hd) (two_le d hd)
  generalize n / 2 ^ (64 - d) = t at cN ht
  have ht' : (t : Int) < 32 := by omega
  have c := fun q => (h.drewN q).ent t ht
  have c0 := h.ent t ht
  clear h
  go_enter Tryd.func20, Tryd.ntmps20
  go_wp2_with fail
  go_quiet ((go_at_call 38; exact quiet_same (cN _)))
  go_wp2
  go_ret
  exact ⟨rfl, _, rfl⟩
theorem has_yes (B d : Nat) (f : Nat → Nat) (w : World) (h : DAt B d f w) (i : Nat) (hi : i < 2 ^ d) :
    Calls Tryd.prog 39 #[.pointer (some ⟨B, 0, none⟩), .int .i64 i] w fun e w' => e = .returned (.bool true) ∧ w = w' := by
  have cL := len_any B d f w h
  have h1 : decide ((i : Int) < ((2 ^ d : Nat) : Int)) = true := decide_eq_true (by omega)
  generalize ((2 ^ d : Nat) : Int) = x at cL h1
  go_enter Tryd.func39, Tryd.ntmps39
  go_wp2_with (go_at_call 19; refine cL.mono ?_; rintro e w' ⟨rfl, rfl⟩)
  all_goals (go_ret; exact ⟨by simp [h1], rfl⟩)
theorem has_no (B d : Nat) (f : Nat → Nat) (w : World) (h : DAt B d f w) (i : Int) (hi : i < 0 ∨ ((2 ^ d : Nat) : Int) ≤ i) :
    Calls Tryd.prog 39 #[.pointer (some ⟨B, 0, none⟩), .int .i64 i] w fun e w' => e = .returned (.bool false) ∧ w = w' := by
  have cL := len_any B d f w h
  have hp := two_pos d
  generalize 2 ^ d = y at cL hi hp
  by_cases h0 : i < 0
  · have h1 : decide ((0 : Int) ≤ i) = false := decide_eq_false (by omega)
    go_enter Tryd.func39, Tryd.ntmps39
    go_wp2
    all_goals (go_ret; exact ⟨rfl, rfl⟩)
  · have h1 : decide ((0 : Int) ≤ i) = true := decide_eq_true (by omega)
    have h2 : decide (i < (y : Int)) = false := decide_eq_false (by omega)
    go_enter Tryd.func39, Tryd.ntmps39
    go_wp2_with (go_at_call 19; refine cL.mono ?_; rintro e w' ⟨rfl, rfl⟩)
    all_goals (go_ret; exact ⟨by simp [h2], rfl⟩)
theorem entry_yes (B d : Nat) (f : Nat → Nat) (w : World) (h : DAt B d f w) (i : Nat) (hi : i < 2 ^ d) :
    Calls Tryd.prog 37 #[.pointer (some ⟨B, 0, none⟩), .int .i64 i] w fun e w' => e = .returned (.tuple #[.int .i64 (f i : Nat), .nilIface]) ∧ w = w' := by
  have cH := has_yes B d f w h i hi
  have hd := h.d5
  have h32 : i < 32 := Nat.lt_of_lt_of_le hi (two_le d hd)
  have c := h.ent i h32
  have hi' : (i : Int) < 32 := by omega
  clear h hi
  go_enter Tryd.func37, Tryd.ntmps37
  go_wp2_with (go_at_call 39; refine cH.mono ?_; rintro e w' ⟨rfl, rfl⟩)
  go_ret2
  exact ⟨rfl, rfl⟩
theorem entry_no (B d : Nat) (f : Nat → Nat) (w : World) (h : DAt B d f w) (i : Int) (hi : i < 0 ∨ ((2 ^ d : Nat) : Int) ≤ i) (er : Value) (hr : w.cell? ⟨1, 0, none⟩ = some er) :
    Calls Tryd.prog 37 #[.pointer (some ⟨B, 0, none⟩), .int .i64 i] w fun e w' => e = .returned (.tuple #[.int .i64 0, er]) ∧ ∃ q, w' = w.drewN q := by
  have cH := has_no B d f w h i hi
  clear h hi
  go_enter Tryd.func37, Tryd.ntmps37
  go_wp2_with (go_at_call 39; refine cH.mono ?_; rintro e w' ⟨rfl, rfl⟩)
  go_quiet (fail)
  go_wp2
  go_ret2
  exact ⟨rfl, _, rfl⟩
theorem span_yes (B d : Nat) (f : Nat → Nat) (w : World) (h : DAt B d f w) (p e : Nat) (he : e ≤ d) (hp : p < 2 ^ e) :
    Calls Tryd.prog 29 #[.pointer (some ⟨B, 0, none⟩), .int .i64 p, .int .i64 e] w fun x w' => x = .returned (.tuple #[.int .i64 (fr d p e : Nat), .int .i64 (to d p e : Nat), .nilIface]) ∧ ∃ q, w' = w.drewN q := by
  have hd := h.d5
  have c := h.dep
  have h1 : decide ((d : Int) < (e : Int)) = false := decide_eq_false (by omega)
  have cL := fun W => low_yes p e (by omega) hp W
  have cH := fun W => high_yes p e (by omega) hp W
  have hl := lowN_lt p e (by omega) hp
  have cA := fun q => number_at B d f (w.drewN q) (h.drewN q) (lowN p e) (by omega)
  have cB := fun q => number_at B d f (w.drewN q) (h.drewN q) (lowN p e + (2 ^ (64 - e) - 1)) hl
  rw [low_div d p e he (by omega)] at cA
  have hT := high_div d p e he (by omega)
  have hS := to_le d p e he hp
  have hS2 := two_le d hd
  generalize (lowN p e + (2 ^ (64 - e) - 1)) / 2 ^ (64 - d) = y at cB hT
  generalize lowN p e + (2 ^ (64 - e) - 1) = u at cH cB
  generalize lowN p e = v at cL cA
  have hy : wrap64 ((y : Int) + 1) = ((to d p e : Nat) : Int) := by rw [← hT]; exact i64_nat (y + 1) (by omega)
  generalize to d p e = z at hy
  generalize fr d p e = x at cA
  clear hT hS hS2 hl h hp
  go_enter Tryd.func29, Tryd.ntmps29
  go_wp2_with (first
    | (go_at_call 42; refine (cL _).mono ?_; rintro e w' ⟨rfl, rfl⟩)
    | (go_at_call 44; refine (cH _).mono ?_; rintro e w' ⟨rfl, q1, rfl⟩)
    | (go_at_call 43; refine (must_u64 _ _).mono ?_; rintro e w' ⟨rfl, rfl⟩)
    | (go_at_call 38; (with_reducible refine (cA q1).mono ?_); rintro e w' ⟨rfl, rfl⟩)
    | (go_at_call 38; (with_reducible refine (cB q1).mono ?_); rintro e w' ⟨rfl, rfl⟩))
  go_ret3
  exact ⟨by rw [hy]; rfl, _, rfl⟩
theorem span_deep (B d : Nat) (f : Nat → Nat) (w : World) (h : DAt B d f w) (p i : Int) (hp : (d : Int) < i) (er : Value) (hr : w.cell? ⟨1, 0, none⟩ = some er) :
    Calls Tryd.prog 29 #[.pointer (some ⟨B, 0, none⟩), .int .i64 p, .int .i64 i] w fun x w' => x = .returned (.tuple #[.int .i64 0, .int .i64 0, er]) ∧ ∃ q, w' = w.drewN q := by
  have c := h.dep
  have h1 : decide ((d : Int) < i) = true := decide_eq_true hp
  go_enter Tryd.func29, Tryd.ntmps29
  go_wp2_with fail
  go_quiet (fail)
  go_wp2
  go_ret3
  exact ⟨rfl, _, rfl⟩
theorem span_bad (B d : Nat) (f : Nat → Nat) (w : World) (h : DAt B d f w) (p i : Int) (hi : i ≤ (d : Int)) (hp : NoPrefix p i) (er : Addr) (hr : w.cell? ⟨1, 0, none⟩ = some (errV er)) :
    Calls Tryd.prog 29 #[.pointer (some ⟨B, 0, none⟩), .int .i64 p, .int .i64 i] w fun x w' => x = .returned (.tuple #[.int .i64 0, .int .i64 0, errV er]) ∧ ∃ q, w' = w.drewN q := by
  have c := h.dep
  have h1 : decide ((d : Int) < i) = false := decide_eq_false (by omega)
  have cL := low_no p i hp w _ hr
  go_enter Tryd.func29, Tryd.ntmps29
  go_wp2_with (go_at_call 42; refine cL.mono ?_; rintro e w' ⟨rfl, q1, rfl⟩)
  go_ret3
  exact ⟨rfl, _, rfl⟩
theorem span_no (B d : Nat) (f : Nat → Nat) (w : World) (h : DAt B d f w) (p i : Int) (hp : NoSpan d p i) (er : Addr) (hr : w.cell? ⟨1, 0, none⟩ = some (errV er)) :
    Calls Tryd.prog 29 #[.pointer (some ⟨B, 0, none⟩), .int .i64 p, .int .i64 i] w fun x w' => x = .returned (.tuple #[.int .i64 0, .int .i64 0, errV er]) ∧ ∃ q, w' = w.drewN q := by
  by_cases hi : (d : Int) < i
  · exact span_deep B d f w h p i hi _ hr
  · exact span_bad B d f w h p i (by omega) (hp.resolve_left hi) er hr

/-! ### what changes it -/
theorem put_yes (B d : Nat) (f : Nat → Nat) (w : World) (h : DAt B d f w) (i n : Nat) (hi : i < 2 ^ d) :
    Calls Tryd.prog 23 #[.pointer (some ⟨B, 0, none⟩), .int .i64 i, .int .i64 n] w fun e w' => e = .returned .nilIface ∧ Past [B] w w' ∧ DAt B d (setF f i (i + 1) n) w' := by
  have cH := has_yes B d f w h i hi
  have hd := h.d5
  have h32 : i < 32 := Nat.lt_of_lt_of_le hi (two_le d hd)
  have hc := h.ent i h32
  have hf := h.fz (1 + i)
  have hi' : (i : Int) < 32 := by omega
  have h0 : decide ((n : Int) < 0) = false := decide_eq_false (by omega)
  have hQ := Lib.hid (h.put i n h32 (setF f i (i + 1) n) (fun j => by rw [setF_next f i i n j (Nat.le_refl _), setF_none]))
  clear h hi
  go_enter Tryd.func23, Tryd.ntmps23
  go_wp2_with (go_at_call 39; refine cH.mono ?_; rintro e w' ⟨rfl, rfl⟩)
  go_ret
  exact ⟨rfl, (Past.refl [B] w).store (.inl (by simp)) _, hQ.out⟩
theorem put_no (B d : Nat) (f : Nat → Nat) (w : World) (h : DAt B d f w) (i n : Int) (hi : i < 0 ∨ ((2 ^ d : Nat) : Int) ≤ i) (er : Value) (hr : w.cell? ⟨1, 0, none⟩ = some er) :
    Calls Tryd.prog 23 #[.pointer (some ⟨B, 0, none⟩), .int .i64 i, .int .i64 n] w fun e w' => e = .returned er ∧ w = w' := by
  have cH := has_no B d f w h i hi
  go_enter Tryd.func23, Tryd.ntmps23
  go_wp2_with (go_at_call 39; refine cH.mono ?_; rintro e w' ⟨rfl, rfl⟩)
  go_ret
  exact ⟨rfl, rfl⟩
theorem put_neg (B d : Nat) (f : Nat → Nat) (w : World) (h : DAt B d f w) (i : Nat) (n : Int) (hi : i < 2 ^ d) (hn : n < 0) (er : Value) (hr : w.cell? ⟨1, 0, none⟩ = some er) :
    Calls Tryd.prog 23 #[.pointer (some ⟨B, 0, none⟩), .int .i64 i, .int .i64 n] w fun e w' => e = .returned er ∧ w = w' := by
  have cH := has_yes B d f w h i hi
  have h0 : decide (n < 0) = true := decide_eq_true hn
  go_enter Tryd.func23, Tryd.ntmps23
  go_wp2_with (go_at_call 39; refine cH.mono ?_; rintro e w' ⟨rfl, rfl⟩)
  go_ret
  exact ⟨rfl, rfl⟩
theorem set_no (B d : Nat) (f : Nat → Nat) (w : World) (h : DAt B d f w) (p i n : Int) (hp : NoSpan d p i) (er : Addr) (hr : w.cell? ⟨1, 0, none⟩ = some (errV er)) :
    Calls Tryd.prog 28 #[.pointer (some ⟨B, 0, none⟩), .int .i64 p, .int .i64 i, .int .i64 n] w fun x w' => x = .returned (.tuple #[.int .i64 0, errV er]) ∧ ∃ q, w' = w.drewN q := by
  have cS := span_no B d f w h p i hp er hr
  go_enter Tryd.func28, Tryd.ntmps28
  go_wp2_with (go_at_call 29; refine cS.mono ?_; rintro e w' ⟨rfl, q1, rfl⟩)
  go_ret2
  exact ⟨rfl, _, rfl⟩
theorem set_neg (B d : Nat) (f : Nat → Nat) (w : World) (h : DAt B d f w) (p e : Nat) (he : e ≤ d) (hp : p < 2 ^ e) (n : Int) (hn : n < 0) (er : Value) (hr : w.cell? ⟨1, 0, none⟩ = some er) :
    Calls Tryd.prog 28 #[.pointer (some ⟨B, 0, none⟩), .int .i64 p, .int .i64 e, .int .i64 n] w fun x w' => x = .returned (.tuple #[.int .i64 0, er]) ∧ ∃ q, w' = w.drewN q := by
  have cS := span_yes B d f w h p e he hp
  generalize fr d p e = x at cS
  generalize to d p e = y at cS
  have h0 : decide (n < 0) = true := decide_eq_true hn
  go_enter Tryd.func28, Tryd.ntmps28
  go_wp2_with (go_at_call 29; refine cS.mono ?_; rintro e w' ⟨rfl, q1, rfl⟩)
  go_quiet (fail)
  go_wp2
  go_ret2
  exact ⟨rfl, q1 + nq, by simp [go_sem]⟩
structure SetOk (B d : Nat) (f : Nat → Nat) (a j n : Nat) (w W : World) : Prop where
  at' : DAt B d (setF f a j n) W
  past : Past [B] w W
theorem set_yes (B d : Nat) (f : Nat → Nat) (w : World) (h : DAt B d f w) (p e n : Nat) (he : e ≤ d) (hp : p < 2 ^ e) :
    Calls Tryd.prog 28 #[.pointer (some ⟨B, 0, none⟩), .int .i64 p, .int .i64 e, .int .i64 n] w fun x w' => x = .returned (.tuple #[.int .i64 (to d p e - fr d p e : Nat), .nilIface]) ∧ Past [B] w w' ∧ DAt B d (setF f (fr d p e) (to d p e) n) w' := by
  have cS := span_yes B d f w h p e he hp
  have hlt := fr_lt d p e
  have hle : to d p e ≤ 32 := Nat.le_trans (to_le d p e he hp) (two_le d h.d5)
  generalize fr d p e = x at cS hlt ⊢
  generalize to d p e = y at cS hlt hle ⊢
  have h0 : decide ((n : Int) < 0) = false := decide_eq_false (by omega)
  have hsub : (y : Int) - (x : Int) = ((y - x : Nat) : Int) := by omega
  have HS := Lib.hid hsub
  have hI : SetOk B d f x x n w w := ⟨by rw [setF_none]; exact h, Past.refl _ _⟩
  have HI := Lib.hid (fun q => (⟨hI.at'.drewN q, hI.past.drewN q⟩ : SetOk B d f x x n w (w.drewN q)))
  clear hsub hI h
  go_enter Tryd.func28, Tryd.ntmps28
  go_wp2_with (go_at_call 29; refine cS.mono ?_; rintro e w' ⟨rfl, q1, rfl⟩)
  have hI := HI.out q1
  clear HI cS
  go_loopw [13] (fun i W => ∃ j : Nat, x ≤ j ∧ j ≤ y ∧ i = .int .i64 j ∧ SetOk B d f x j n w W) (fun i _ => y - (intOf i).toNat)
  case atStart => exact ⟨x, Nat.le_refl _, by omega, rfl, hI⟩
  case round =>
    obtain ⟨j, hxj, hjy, rfl, hJ⟩ := hrel
    clear hI
    rcases Nat.lt_or_ge j y with hlt | hge
    · have hc := hJ.at'.ent j (by omega)
      have hf := hJ.at'.fz (1 + j)
      have hj' : (j : Int) < 32 := by omega
      have hj2 : (j : Int) < (y : Int) := by omega
      have hQ := Lib.hid (hJ.at'.put j n (by omega) (setF f x (j + 1) n) (fun i => setF_next f x j n i hxj))
      have hP := Lib.hid (hJ.past.store (p := ⟨B, 1 + j, none⟩) (.inl (by simp)) (.int .i64 (n : Nat)))
      clear hJ
      go_wp2
      go_roundw
      case rel => exact ⟨j + 1, by omega, by omega, by simp, hQ.out, hP.out⟩
      case measure => simp [intOf]; omega
    · obtain rfl : j = y := by omega
      have HJ := Lib.hid hJ
      clear hJ
      go_wp2
      go_ret2
      exact ⟨by rw [HS.out]; rfl, HJ.out.past, HJ.out.at'⟩

/-! ### a new one; its list -/
theorem cell_alloc_row (w : World) (A : Array Value) (t : TypeId) (j : Nat) : (w.alloc (.cells A t)).cell? ⟨w.heap.size, j, none⟩ = A[j]? := by simp [go_sem]
theorem new_no (i : Int) (hi : i < 0 ∨ 5 < i) (w : World) (er : Value) (hr : w.cell? ⟨1, 0, none⟩ = some er) :
    Calls Tryd.prog 22 #[.int .i64 i] w fun e w' => e = .returned (.tuple #[.pointer none, er]) ∧ ∃ q, w' = w.drewN q := by
  rcases hi with h | h
  · have h1 : decide (i < 0) = true := decide_eq_true h
    go_enter Tryd.func22, Tryd.ntmps22
    go_wp2_with fail
    go_quiet (fail)
    go_wp2
    go_ret2
    exact ⟨rfl, _, rfl⟩
  · have h1 : decide (i < 0) = false := decide_eq_false (by omega)
    have h2 : decide (5 < i) = true := decide_eq_true h
    go_enter Tryd.func22, Tryd.ntmps22
    go_wp2_with fail
    go_quiet (fail)
    go_wp2
    go_ret2
    exact ⟨rfl, _, rfl⟩
theorem new_yes (d : Nat) (hd : d ≤ 5) (w : World) :
    Calls Tryd.prog 22 #[.int .i64 d] w fun e w' => e = .returned (.tuple #[.pointer (some ⟨w.heap.size, 0, none⟩), .nilIface]) ∧ DAt w.heap.size d (fun _ => 0) w' ∧ Below w.heap.size w w' := by
  have h1 : decide ((d : Int) < 0) = false := decide_eq_false (by omega)
  have h2 : decide (5 < (d : Int)) = false := decide_eq_false (by omega)
  go_enter Tryd.func22, Tryd.ntmps22
  go_wp2
  go_ret2
  refine ⟨rfl, ⟨hd, ?_, fun j hj => ?_, fun i => ?_⟩, ?_⟩
  · rw [cell_alloc_row]; rfl
  · match j, hj with
    | 0, _ => rw [cell_alloc_row]; rfl
    | 1, _ => rw [cell_alloc_row]; rfl
    | 2, _ => rw [cell_alloc_row]; rfl
    | 3, _ => rw [cell_alloc_row]; rfl
    | 4, _ => rw [cell_alloc_row]; rfl
    | 5, _ => rw [cell_alloc_row]; rfl
    | 6, _ => rw [cell_alloc_row]; rfl
    | 7, _ => rw [cell_alloc_row]; rfl
    | 8, _ => rw [cell_alloc_row]; rfl
    | 9, _ => rw [cell_alloc_row]; rfl
    | 10, _ => rw [cell_alloc_row]; rfl
    | 11, _ => rw [cell_alloc_row]; rfl
    | 12, _ => rw [cell_alloc_row]; rfl
    | 13, _ => rw [cell_alloc_row]; rfl
    | 14, _ => rw [cell_alloc_row]; rfl
    | 15, _ => rw [cell_alloc_row]; rfl
    | 16, _ => rw [cell_alloc_row]; rfl
    | 17, _ => rw [cell_alloc_row]; rfl
    | 18, _ => rw [cell_alloc_row]; rfl
    | 19, _ => rw [cell_alloc_row]; rfl
    | 20, _ => rw [cell_alloc_row]; rfl
    | 21, _ => rw [cell_alloc_row]; rfl
    | 22, _ => rw [cell_alloc_row]; rfl
    | 23, _ => rw [cell_alloc_row]; rfl
    | 24, _ => rw [cell_alloc_row]; rfl
    | 25, _ => rw [cell_alloc_row]; rfl
    | 26, _ => rw [cell_alloc_row]; rfl
    | 27, _ => rw [cell_alloc_row]; rfl
    | 28, _ => rw [cell_alloc_row]; rfl
    | 29, _ => rw [cell_alloc_row]; rfl
    | 30, _ => rw [cell_alloc_row]; rfl
    | 31, _ => rw [cell_alloc_row]; rfl
    | j + 32, h => omega
  · simp [go_sem]
  · exact (Below.refl _ _).alloc (Nat.le_refl _) _
theorem infoInt : (Tryd.prog.info? 3).map (fun i => (i.zero, i.size, i.bytes)) = some (some (.int .i64 0), 1, 8) := by kernel_rfl
/-- a list's cells -/
def cellsL (f : Nat → Nat) (n : Nat) : List Value := (List.range n).map fun j => .int .i64 (f j : Nat)
theorem cellsL_at (f : Nat → Nat) (n j : Nat) (hj : j < n) : (cellsL f n)[j]? = some (.int .i64 (f j : Nat)) := by simp [cellsL, hj]
theorem cellsL_len (f : Nat → Nat) (n : Nat) : (cellsL f n).length = n := by simp [cellsL]
theorem cellsL_one (f : Nat → Nat) (n : Nat) : ∀ u ∈ cellsL f n, u.oneCell' = true := fun u hu => by
  obtain ⟨j, _, rfl⟩ := List.mem_map.1 hu; rfl
set_option maxRecDepth 20000 in
theorem clone_any (B o n c : Nat) (f : Nat → Nat) (w : World) (hn : 0 < n) (h32 : n ≤ 32) (h : ∀ j, j < n → w.cell? ⟨B, o + j, none⟩ = some (.int .i64 (f j : Nat))) :
    Calls Tryd.prog 34 #[.slice (some ⟨B, o, none⟩) n c] w fun e w' => ∃ v, e = .returned v ∧ w'.ownsRow w.heap.size 3 1 v n (cellsL f n) ∧ Below w.heap.size w w' := by
  have e0 : ∀ w : World, (binOp .eql 22 (.slice (some ⟨B, o, none⟩) n c) (.slice none 0 0)).run Tryd.prog w = .ok (.bool false) w := fun w => by kernel_rfl
  obtain ⟨i0, hi0, hq⟩ := Option.map_eq_some_iff.1 infoInt
  have hq0 : i0.zero = some (.int .i64 0) := congrArg Prod.fst hq
  have hq1 : i0.size = 1 := congrArg (fun x => x.2.1) hq
  have hq2 : i0.bytes = 8 := congrArg (fun x => x.2.2) hq
  have hown : (w.alloc (.cells #[] 3)).ownsRow w.heap.size 3 1 (.slice (some ⟨w.heap.size, 0, none⟩) 0 0) 0 [] :=
    ⟨rfl, .inr ⟨w.heap.size, 0, #[], rfl, Nat.le_refl _, heap_alloc_new w _, Nat.le_refl _, Nat.zero_le _, rfl, rfl⟩⟩
  have hnew : ∀ j u, (cellsL f n)[j]? = some u → (w.alloc (.cells #[] 3)).cell? ((⟨B, o, none⟩ : Addr).add j) = some u := fun j u hu => by
    have hj : j < n := by have := (List.getElem?_eq_some_iff.1 hu).1; rw [cellsL_len] at this; exact this
    rw [cellsL_at f n j hj] at hu
    rw [addr_add, ((Below.refl w.heap.size w).alloc (Nat.le_refl _) _).cell (World.block_lt_of_cell? w _ (h j hj)), h j hj, hu]
  have HO := Lib.hid hown
  have HN := Lib.hid hnew
  clear hown hnew hq
  go_enter Tryd.func34, Tryd.ntmps34
  go_wp2_with (at_builtin; refine wpList_append_own _ rfl _ _ 22 rfl w.heap.size 3 i0 (.int .i64 0) 1 8 Tryd.underlying22 hi0 hq0 hq1 hq2 rfl (by decide) _ _ _ rfl HO.out ⟨B, o, none⟩ n c (cellsL f n) rfl (by rw [cellsL_len]; omega) HN.out (cellsL_one f n) (by simp only [maxLen]; omega) (by omega) (by simp) ?_; intro v' w1 hown' hgrow _; have HO1 := Lib.hid hown'; have HG := Lib.hid hgrow; clear hown' hgrow)
  go_ret
  refine ⟨_, rfl, by simpa using HO1.out, ?_⟩
  have hg := HG.out
  refine ⟨hg.os, hg.tape, hg.output, ?_, fun k hk => ?_⟩
  · have := hg.size; simp at this; omega
  · rw [hg.block k (by simp; omega) (by intro e; injection e with e; simp at e; omega)]
    exact ((Below.refl w.heap.size w).alloc (Nat.le_refl _) _).block k hk
/-- a list that a call answered: where it lies -/
theorem list_at {w : World} {base n : Nat} {f : Nat → Nat} {v : Value} (h : w.ownsRow base 3 1 v n (cellsL f n)) (hn : 0 < n) :
    ∃ g c, v = .slice (some ⟨g, 0, none⟩) n c ∧ base ≤ g ∧ g < w.heap.size ∧ (∀ j, j < n → w.cell? ⟨g, j, none⟩ = some (.int .i64 (f j : Nat))) ∧ ∀ j, w.frozen? ⟨g, j, none⟩ = false := by
  rcases h.2 with ⟨_, rfl⟩ | ⟨g, c, cur, rfl, hb, hg, hnc, _, hcs, ht⟩
  · omega
  · refine ⟨g, c, rfl, hb, (Array.getElem?_eq_some_iff.1 hg).1, fun j hj => ?_, fun j => frozen_of_row _ _ j _ _ hg⟩
    rw [cell_of_row _ _ j _ _ _ hg]
    have h2 := cellsL_at f n j hj
    rw [← ht, List.getElem?_take] at h2
    split at h2
    · simpa using h2
    · cases h2
theorem list_any (B d : Nat) (f : Nat → Nat) (w : World) (h : DAt B d f w) :
    Calls Tryd.prog 13 #[.pointer (some ⟨B, 0, none⟩)] w fun e w' => ∃ g c, e = .returned (.slice (some ⟨g, 0, none⟩) (2 ^ d : Nat) c) ∧ w.heap.size ≤ g ∧ g < w'.heap.size ∧ (∀ j, j < 2 ^ d → w'.cell? ⟨g, j, none⟩ = some (.int .i64 (f j : Nat))) ∧ (∀ j, w'.frozen? ⟨g, j, none⟩ = false) ∧ Below w.heap.size w w' := by
  have hd := h.d5
  have h32 := two_le d hd
  have hp := two_pos d
  have cL := fun W (hW : DAt B d f W) => len_any B d f W hW
  have cC := fun W (hW : DAt B d f W) => clone_any B 1 (2 ^ d) 32 f W hp h32 (fun j hj => hW.ent j (by omega))
  generalize 2 ^ d = n at cL cC h32 hp ⊢
  have hn : (n : Int) ≤ 32 := by omega
  go_enter Tryd.func13, Tryd.ntmps13
  go_wp2_with fail
  go_region_held3 (fun w' => DAt B d f w')
    (first | exact DAt.drew (by assumption) | exact DAt.below (by assumption) (by assumption) | go_keep)
    (first
      | (go_at_call 19; refine Calls.mono (cL _ (by assumption)) ?_; rintro e w' ⟨rfl, rfl⟩)
      | (go_at_call 34; refine Calls.mono (cC _ (by assumption)) ?_; rintro e w' ⟨v, rfl, hown, hb⟩))
  obtain ⟨g, c', rfl, h1, h2, h3, h4⟩ := list_at hown hp
  go_wp2
  go_ret
  exact ⟨g, c', rfl, h1, h2, h3, h4, below_drew hb⟩
/-- two slices of the same numbers -/
theorem same_fn (f : Nat → Nat) (n g1 c1 g2 c2 : Nat) (w : World) (hl : n ≤ 64)
    (h1 : ∀ j, j < n → w.cell? ⟨g1, j, none⟩ = some (.int .i64 (f j : Nat))) (h2 : ∀ j, j < n → w.cell? ⟨g2, j, none⟩ = some (.int .i64 (f j : Nat))) :
    Calls Tryd.prog 12 #[.slice (some ⟨g1, 0, none⟩) n c1, .slice (some ⟨g2, 0, none⟩) n c2] w fun e w' => e = .returned (.bool true) ∧ w = w' := by
  have H1 := Lib.hid h1
  have H2 := Lib.hid h2
  clear h1 h2
  go_enter Tryd.func12, Tryd.ntmps12
  go_wp2
  go_loop [14] (fun i => ∃ k : Nat, k ≤ n ∧ i = .int .i64 k) (fun i => n - (intOf i).toNat)
  case atStart => exact ⟨0, by omega, rfl⟩
  case round =>
    obtain ⟨k, hk, rfl⟩ := hrel
    by_cases hlt : k < n
    · have a1 := H1.out k hlt
      have a2 := H2.out k hlt
      go_wp2
      go_round
      case rel => exact ⟨k + 1, by omega, by go_num⟩
      case measure => simp [intOf]; omega
    · go_wp2
      go_ret
      exact ⟨rfl, rfl⟩
end Go.Proofs.YtmbdfoobnkanlaaDoor.dir
