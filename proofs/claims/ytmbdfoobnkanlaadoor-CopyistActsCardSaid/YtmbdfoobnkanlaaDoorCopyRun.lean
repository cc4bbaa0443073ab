/- CopyRun: a copyist and its meter together; the chapter's example; a beginning. -/
import Derived.Test.YtmbdfoobnkanlaaDoorCopyRef
import Derived.LoopTactic
namespace Go.Proofs.YtmbdfoobnkanlaaDoor.copyist
open Go.ChangeShapes Go.WideShapes Go.ChangeAt Go.RowKit split trap errs dir meter
set_option linter.unusedSimpArgs false
set_option linter.unusedVariables false

/-- a meter that counted k units, and nothing else -/
def mt (k : Nat) : Mt := ⟨0, 0, 0, 0, k, k, 0, false⟩
theorem sm_one (k : Nat) (hk : k ≤ 1000) : sm (k : Int) 1 = ((k + 1 : Nat) : Int) := by
  unfold sm cl; omega
theorem mt_unit (k : Nat) (hk : k ≤ 1000) : (mt k).unit 1 = mt (k + 1) := by
  unfold Mt.unit
  rw [if_neg (by decide)]
  have h : (mt k).past 1 = false := rfl
  rw [h]
  simp only [Bool.false_eq_true, if_false, Mt.units, mt, sm_one k hk]
theorem mt_unitE (k : Nat) : (mt k).unitE 1 = 0 := by
  unfold Mt.unitE
  rw [if_neg (by decide)]
  have h : (mt k).past 1 = false := rfl
  rw [h]; rfl
theorem mt_ok (k : Nat) (hk : k ≤ 1000) : (mt k).Ok := by
  constructor <;> simp [mt] <;> omega
/-- a copyist and its meter, all new since w0 -/
structure Rl (C A N B d : Nat) (f : Nat → Nat) (k : Nat) (t : Bool) (w0 W : World) : Prop where
  c : ∃ g, CAt C A N d f g k t W ∧ Inv f g k
  m : MAt B 0 (mt k) W
  bc : B ≠ C
  ba : B ≠ A
  bn : B ≠ N
  below : Below w0.heap.size w0 W
  lc : w0.heap.size ≤ C
  la : w0.heap.size ≤ A
  ln : w0.heap.size ≤ N
  lb : w0.heap.size ≤ B
section
variable {C A N B d k : Nat} {f f' : Nat → Nat} {t : Bool} {w0 W W' : World}
theorem Rl.past (h : Rl C A N B d f k t w0 W) (hb : Below W.heap.size W W') : Rl C A N B d f k t w0 W' := by
  obtain ⟨g, hc, hi⟩ := h.c
  exact ⟨⟨g, hc.below hb, hi⟩, h.m.below hb, h.bc, h.ba, h.bn, under.below_step h.below hb, h.lc, h.la, h.ln, h.lb⟩
theorem Rl.aside {l : List Nat} (h : Rl C A N B d f k t w0 W) (hp : Past l W W') (hl : ∀ x ∈ l, w0.heap.size ≤ x ∧ x ≠ C ∧ x ≠ A ∧ x ≠ N ∧ x ≠ B) : Rl C A N B d f k t w0 W' := by
  obtain ⟨g, hc, hi⟩ := h.c
  exact ⟨⟨g, hc.past hp (fun e => (hl _ e).2.1 rfl) (fun e => (hl _ e).2.2.1 rfl) (fun e => (hl _ e).2.2.2.1 rfl), hi⟩, h.m.past hp (fun e => (hl _ e).2.2.2.2 rfl), h.bc, h.ba, h.bn, h.below.trans (hp.below h.below.size (fun x hx => (hl x hx).1)), h.lc, h.la, h.ln, h.lb⟩
theorem Rl.kd (h : Rl C A N B d f k t w0 W) : k ≤ 2 ^ d := by obtain ⟨g, hc, hi⟩ := h.c; exact hc.kd
theorem Rl.d4 (h : Rl C A N B d f k t w0 W) : d ≤ 4 := by obtain ⟨g, hc, hi⟩ := h.c; exact hc.d4
theorem Rl.k16 (h : Rl C A N B d f k t w0 W) : k ≤ 16 := Nat.le_trans h.kd (two_le4 d h.d4)
end
/-- how many are copied behind one Step more -/
def nxt (d k : Nat) : Nat := if k < 2 ^ d then k + 1 else k
theorem rl_step (a : String → Addr) (C A N B d k : Nat) (f : Nat → Nat) (t : Bool) (w0 W : World) (hE : Er a w0) (h : Rl C A N B d f k t w0 W) :
    Calls Tryd.prog 15 #[.pointer (some ⟨C, 0, none⟩), .pointer (some ⟨B, 0, none⟩)] W fun e W' => e = .returned (.bool (decide (k < 2 ^ d))) ∧ Rl C A N B d f (nxt d k) t w0 W' ∧ Past [C, N, B] W W' := by
  have hk16 := h.k16
  obtain ⟨g, hc, hi⟩ := h.c
  unfold nxt
  by_cases hk : k < 2 ^ d
  · rw [if_pos hk, decide_eq_true hk]
    refine (step_yes a C A N d k B f g t (mt k) (mt_ok k (by omega)) (mt_unitE k) W hc hk h.m (hE.below h.below) h.bc h.ba h.bn).mono ?_
    rintro e W' ⟨rfl, hp, hc', hm'⟩
    rw [mt_unit k (by omega)] at hm'
    refine ⟨rfl, ⟨⟨_, hc', hi.step⟩, hm', h.bc, h.ba, h.bn, h.below.trans (hp.below h.below.size ?_), h.lc, h.la, h.ln, h.lb⟩, hp⟩
    intro x hx
    simp at hx
    rcases hx with rfl | rfl | rfl
    · exact h.lc
    · exact h.ln
    · exact h.lb
  · rw [if_neg hk, decide_eq_false hk]
    obtain rfl : k = 2 ^ d := by have := hc.kd; omega
    refine (step_no C A N d f g t W hc _).mono ?_
    rintro e W' ⟨rfl, q, rfl⟩
    exact ⟨rfl, h.past (dir.drewN_below W q), Past.of (dir.drewN_below W q)⟩
theorem rl_set (a : String → Addr) (C A N B d k : Nat) (f : Nat → Nat) (t : Bool) (w0 W : World) (hE : Er a w0) (h : Rl C A N B d f k t w0 W) (p e n : Nat) (he : e ≤ d) (hp : p < 2 ^ e) :
    Calls Tryd.prog 8 #[.pointer (some ⟨C, 0, none⟩), .int .i64 p, .int .i64 e, .int .i64 n] W fun x W' => x = .returned (.tuple #[.int .i64 (to d p e - fr d p e + 2 * (min (to d p e) k - fr d p e) : Nat), .nilIface]) ∧ Rl C A N B d (setF f (fr d p e) (to d p e) n) k t w0 W' ∧ Past [A, N] W W' := by
  obtain ⟨g, hc, hi⟩ := h.c
  refine (set_yes C A N d k f g t W hc p e n he hp).mono ?_
  rintro x W' ⟨rfl, hp', hc'⟩
  refine ⟨rfl, ⟨⟨_, hc', hi.set _ _ n⟩, h.m.past hp' (by simp; exact ⟨h.ba, h.bn⟩), h.bc, h.ba, h.bn, h.below.trans (hp'.below h.below.size ?_), h.lc, h.la, h.ln, h.lb⟩, hp'⟩
  intro x hx
  simp at hx
  rcases hx with rfl | rfl
  · exact h.la
  · exact h.ln
theorem rl_setbad (a : String → Addr) (C A N B d k : Nat) (f : Nat → Nat) (t : Bool) (w0 W : World) (hE : Er a w0) (h : Rl C A N B d f k t w0 W) (p i n : Int) (hp : NoSpan d p i ∨ n < 0) :
    Calls Tryd.prog 8 #[.pointer (some ⟨C, 0, none⟩), .int .i64 p, .int .i64 i, .int .i64 n] W fun x W' => x = .returned (.tuple #[.int .i64 0, errV (a "ambler/api.ErrRange")]) ∧ Rl C A N B d f k t w0 W' ∧ Past [A, N] W W' := by
  obtain ⟨g, hc, hi⟩ := h.c
  refine (set_bad C A N d k f g t W hc p i n hp _ (hE.below h.below).r).mono ?_
  rintro x W' ⟨rfl, q, rfl⟩
  exact ⟨rfl, h.past (dir.drewN_below W q), Past.of (dir.drewN_below W q)⟩
theorem rl_left (C A N B d k : Nat) (f : Nat → Nat) (t : Bool) (w0 W : World) (h : Rl C A N B d f k t w0 W) :
    Calls Tryd.prog 17 #[.pointer (some ⟨C, 0, none⟩)] W fun e W' => e = .returned (.int .i64 ((2 ^ d - k : Nat) : Int)) ∧ ∃ q, W' = W.drewN q := by
  obtain ⟨g, hc, hi⟩ := h.c
  exact left_any C A N d k f g t W hc
theorem rl_takeno (a : String → Addr) (C A N B d k : Nat) (f : Nat → Nat) (w0 W : World) (hE : Er a w0) (h : Rl C A N B d f k false w0 W) (hk : k < 2 ^ d) :
    Calls Tryd.prog 10 #[.pointer (some ⟨C, 0, none⟩)] W fun e W' => e = .returned (.tuple #[.pointer none, errV (a "ambler/api.ErrState")]) ∧ Below W.heap.size W W' := by
  obtain ⟨g, hc, hi⟩ := h.c
  refine (take_no C A N d k f g false W hc (.inl hk) _ (hE.below h.below).s).mono ?_
  rintro e W' ⟨rfl, q, rfl⟩
  exact ⟨rfl, dir.drewN_below W q⟩
theorem rl_take (C A N B d : Nat) (f : Nat → Nat) (w0 W : World) (h : Rl C A N B d f (2 ^ d) false w0 W) :
    Calls Tryd.prog 10 #[.pointer (some ⟨C, 0, none⟩)] W fun e W' => e = .returned (.tuple #[.pointer (some ⟨N, 0, none⟩), .nilIface]) ∧ Rl C A N B d f (2 ^ d) true w0 W' ∧ Past [C] W W' := by
  obtain ⟨g, hc, hi⟩ := h.c
  refine (take_yes C A N d f g W hc).mono ?_
  rintro e W' ⟨rfl, hp, hc'⟩
  refine ⟨rfl, ⟨⟨g, hc', hi⟩, h.m.past hp (by simpa using h.bc), h.bc, h.ba, h.bn, h.below.trans (hp.below h.below.size ?_), h.lc, h.la, h.ln, h.lb⟩, hp⟩
  intro x hx
  simp at hx
  exact hx ▸ h.lc
theorem rl_all (C A N B d k : Nat) (f : Nat → Nat) (t : Bool) (w0 W : World) (h : Rl C A N B d f k t w0 W) :
    Calls Tryd.prog 18 #[.pointer (some ⟨B, 0, none⟩)] W fun e W' => e = .returned (.agg #[.int .i64 0, .int .i64 0, .int .i64 k]) ∧ Below W.heap.size W W' := all_any B 0 (mt k) W h.m
/-- the new directory's entries, when all is copied -/
theorem rl_made {C A N B d : Nat} {f : Nat → Nat} {t : Bool} {w0 W : World} (h : Rl C A N B d f (2 ^ d) t w0 W) : ∃ g, DAt N (d + 1) g W ∧ ∀ j, j < 2 ^ (d + 1) → g j = dbl f j := by
  obtain ⟨g, hc, hi⟩ := h.c
  exact ⟨g, hc.b, fun j hj => hi j (by rw [two_next] at hj; exact hj)⟩
theorem rl_list (C A N B d : Nat) (f : Nat → Nat) (t : Bool) (w0 W : World) (h : Rl C A N B d f (2 ^ d) t w0 W) :
    Calls Tryd.prog 13 #[.pointer (some ⟨N, 0, none⟩)] W fun e w' => ∃ g c, e = .returned (.slice (some ⟨g, 0, none⟩) (2 ^ (d + 1) : Nat) c) ∧ g < w'.heap.size ∧ (∀ j, j < 2 ^ (d + 1) → w'.cell? ⟨g, j, none⟩ = some (.int .i64 (dbl f j : Nat))) ∧ Below W.heap.size W w' := by
  obtain ⟨g, hd, hg⟩ := rl_made h
  refine (list_any N (d + 1) g W hd).mono ?_
  rintro e w' ⟨g', c, rfl, _, h2, h3, _, h5⟩
  exact ⟨g', c, rfl, h2, fun j hj => by rw [h3 j hj, hg j hj], h5⟩
/-- a beginning: a copyist, and a meter that is made behind it -/
theorem rl_new {C A N d : Nat} {f : Nat → Nat} {w0 W : World} (hc : CAt C A N d f (fun _ => 0) 0 false W) (hb : Below w0.heap.size w0 W) (lc : w0.heap.size ≤ C) (la : w0.heap.size ≤ A) (ln : w0.heap.size ≤ N) :
    Rl C A N W.heap.size d f 0 false w0 (W.alloc (.cells #[.int .i64 0, .int .i64 0, .int .i64 0, .int .i64 0, .int .i64 0, .int .i64 0, .int .i64 0, .bool false] 36)) :=
  ⟨⟨_, hc.below (new_block W _), Inv.zero _ _⟩, MAt.new W, Nat.ne_of_gt hc.lt, Nat.ne_of_gt hc.a.lt, Nat.ne_of_gt hc.b.lt, under.below_step hb (new_block W _), lc, la, ln, hb.size⟩

/-! ### the chapter's example -/
def exF : Nat → Nat := setF (setF (fun _ => 0) 0 1 3) 1 2 4
theorem fldC (x y z : Value) (w : World) : (Instr.field 56 (.agg #[x, y, z]) 2).run Tryd.prog w = .ok z w := by kernel_rfl
set_option maxRecDepth 100000 in
set_option maxHeartbeats 4000000 in
theorem alive_any (a : String → Addr) (w : World) (hE : Er a w) :
    Calls Tryd.prog 5 #[] w fun e w' => e = .returned (.bool true) ∧ Below w.heap.size w w' := by
  have cN := dir.new_yes 1 (by decide) w
  have c1 := fun W (hW : DAt w.heap.size 1 (fun _ => 0) W) => put_yes w.heap.size 1 _ W hW 0 3 (by decide)
  have c2 := fun W (hW : DAt w.heap.size 1 (setF (fun _ => 0) 0 1 3) W) => put_yes w.heap.size 1 _ W hW 1 4 (by decide)
  have c3 := fun W (hW : DAt w.heap.size 1 exF W) => new_yes w.heap.size 1 exF (by decide) W hW
  have HE := Lib.hid hE
  have C2 := Lib.hid c2
  have C3 := Lib.hid c3
  clear hE c2 c3
  go_enter Tryd.func5, Tryd.ntmps5
  go_wp2_with (first
    | (go_at_call 22; refine cN.mono ?_; rintro e w1 ⟨rfl, hd1, hb1⟩)
    | (go_at_call 23; refine (c1 _ hd1).mono ?_; rintro e w2 ⟨rfl, hp2, hd2⟩; have hb2 := below_past hb1 hp2 (Nat.le_refl _); clear hd1 hb1 c1)
    | (go_at_call 23; refine (C2.out _ hd2).mono ?_; rintro e w3 ⟨rfl, hp3, hd3⟩; have hb3 := below_past hb2 hp3 (Nat.le_refl _); clear hd2 hp3)
    | (go_at_call 24; refine (C3.out _ hd3).mono ?_; rintro e w4 ⟨C, rfl, hC4, hc4, hb4⟩; have hR := rl_new hc4 (under.below_step hb3 hb4) (Nat.le_trans hb3.size (Nat.le_of_lt hC4)) (Nat.le_refl _) hb3.size; clear hb3 hb4 hc4 hC4 hd3))
  generalize w3.heap.size = N at hR
  generalize w.heap.size = A at hR ⊢
  generalize w4.heap.size = B at hR ⊢
  generalize w4.alloc (.cells #[.int .i64 0, .int .i64 0, .int .i64 0, .int .i64 0, .int .i64 0, .int .i64 0, .int .i64 0, .bool false] 36) = w5 at hR ⊢
  clear hp2 hb2 C2 C3 cN
  have s0 : ∀ W, Rl C A N B 1 exF 0 false w W → Calls Tryd.prog 15 #[.pointer (some ⟨C, 0, none⟩), .pointer (some ⟨B, 0, none⟩)] W fun e W' => e = .returned (.bool true) ∧ Rl C A N B 1 exF 1 false w W' :=
    fun W h => (rl_step a C A N B 1 0 exF false w W HE.out h).mono fun e W' h => ⟨h.1, h.2.1⟩
  have s1 : ∀ W, Rl C A N B 1 exF 1 false w W → Calls Tryd.prog 15 #[.pointer (some ⟨C, 0, none⟩), .pointer (some ⟨B, 0, none⟩)] W fun e W' => e = .returned (.bool true) ∧ Rl C A N B 1 exF (2 ^ 1) false w W' :=
    fun W h => (rl_step a C A N B 1 1 exF false w W HE.out h).mono fun e W' h => ⟨h.1, h.2.1⟩
  have s2 : ∀ W, Rl C A N B 1 exF (2 ^ 1) false w W → Calls Tryd.prog 15 #[.pointer (some ⟨C, 0, none⟩), .pointer (some ⟨B, 0, none⟩)] W fun e W' => e = .returned (.bool false) ∧ Rl C A N B 1 exF (2 ^ 1) false w W' :=
    fun W h => (rl_step a C A N B 1 2 exF false w W HE.out h).mono fun e W' h => ⟨h.1, h.2.1⟩
  have s3 := fun W (h : Rl C A N B 1 exF (2 ^ 1) false w W) => rl_take C A N B 1 exF w W h
  have s4 : ∀ W, Rl C A N B 1 exF (2 ^ 1) true w W → Calls Tryd.prog 13 #[.pointer (some ⟨N, 0, none⟩)] W fun e w' => ∃ g c, e = .returned (.slice (some ⟨g, 0, none⟩) 4 c) ∧ g < w'.heap.size ∧ (∀ j, j < 4 → w'.cell? ⟨g, j, none⟩ = some (.int .i64 (dbl exF j : Nat))) ∧ Below W.heap.size W w' := fun W h => rl_list C A N B 1 exF true w W h
  have s5 : ∀ W, Rl C A N B 1 exF (2 ^ 1) true w W → Calls Tryd.prog 18 #[.pointer (some ⟨B, 0, none⟩)] W fun e W' => e = .returned (.agg #[.int .i64 0, .int .i64 0, .int .i64 2]) ∧ Below W.heap.size W W' := fun W h => rl_all C A N B 1 (2 ^ 1) exF true w W h
  generalize (2 : Nat) ^ 1 = z at s1 s2 s3 s4 s5
  clear HE
  have S2 := Lib.hid s2
  have S4 := Lib.hid s4
  have S5 := Lib.hid s5
  have hf := fldC
  clear s2 s4 s5
  refine (s0 _ hR).mono ?_
  rintro e w6 ⟨rfl, hR6⟩
  clear hR s0
  go_wp2_with (first
    | (go_at_call 15; refine (s1 _ hR6).mono ?_; rintro e w7 ⟨rfl, hR7⟩; clear hR6 s1)
    | (go_at_call 15; refine (S2.out _ hR7).mono ?_; rintro e w8 ⟨rfl, hR8⟩; clear hR7)
    | (go_at_call 10; refine (s3 _ hR8).mono ?_; rintro e w9 ⟨rfl, hR9, _⟩; clear hR8 s3)
    | (go_at_call 13; refine (S4.out _ hR9).mono ?_; rintro e w10 ⟨g, c, rfl, hl10, hc10, hb10⟩))
  have hb11 := new_block w10 (.cells #[.int .i64 3, .int .i64 3, .int .i64 4, .int .i64 4] 3)
  have hS := same_fn (dbl exF) 4 g c w10.heap.size 4 (w10.alloc (.cells #[.int .i64 3, .int .i64 3, .int .i64 4, .int .i64 4] 3)) (by decide)
    (fun j hj => (hb11.cell (p := ⟨g, j, none⟩) hl10).trans (hc10 j hj))
    (fun j hj => by
      rw [cell_alloc_row]
      match j, hj with
      | 0, _ => rfl
      | 1, _ => rfl
      | 2, _ => rfl
      | 3, _ => rfl
      | j + 4, h => omega)
  with_reducible refine hS.mono ?_
  rintro e w12 ⟨rfl, rfl⟩
  have hR12 := (hR9.past hb10).past hb11
  clear hS hc10 hb10 hb11 hl10 hR9
  generalize w10.alloc (.cells #[.int .i64 3, .int .i64 3, .int .i64 4, .int .i64 4] 3) = w12 at hR12 ⊢
  go_wp2_with (go_at_call 18; refine (S5.out _ hR12).mono ?_; rintro e w13 ⟨rfl, hb13⟩)
  go_ret
  exact ⟨rfl, (hR12.past hb13).below⟩
end Go.Proofs.YtmbdfoobnkanlaaDoor.copyist
