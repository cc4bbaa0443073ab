/- The document's own Ends: the walk. -/
import Derived.Test.YtiohlgkdlaiofaaDoorSplitEnds0
import Derived.Test.YtiohlgkdlaiofaaDoorSplitAlive
import Derived.Deep.QuietTactic
namespace Go.Proofs.YtiohlgkdlaiofaaDoor.split
open Go.ChangeShapes Go.WideShapes Go.ChangeAt Go.RowKit

theorem setRow_same {w : World} {g : Nat} {cs : Array Value} {t : TypeId} {fr : Nat × Nat} (hg : w.heap[g]? = some (.cells cs t fr)) : w.setRow g cs = w := by
  unfold World.setRow
  refine (congrArg (fun h => ({ w with heap := h } : World)) ?_).trans rfl
  apply Array.ext_getElem?
  intro i
  rw [Array.getElem?_modify]
  by_cases h : g = i
  · subst h; rw [if_pos rfl, hg]; rfl
  · rw [if_neg h]
/-- a store of what is there -/
theorem wpList_store_same {P : Program} {ops : Array Oper} {rest : List Oper} {o : Oper} {a : Act} {w : World} {Q : Exit → Act → World → Prop} (hgd : o.guard = none) (ty : TypeId) (x y : Operand) (ho : o.op = .store ty x y)
    (g : Nat) (cells : Array Value) (hx : a.eval x = .pointer (some ⟨g, 0, none⟩)) (hy : a.eval y = .agg cells)
    (t : TypeId) (hg : w.heap[g]? = some (.cells cells t (0, 0))) (hi : (P.info? ty).map (·.size) = some cells.size) (h1 : cells.all (·.oneCell') = true)
    (h : wpList P ops Q rest (a.put o.dst undef) w) : wpList P ops Q (o :: rest) a w :=
  wpList_store_row hgd ty x y ho g cells hx hy t cells hg hi rfl h1 (by rw [setRow_same hg]; exact h)
theorem pow2_small (j d : Nat) (hj : j ≤ d) (hd : d ≤ 16) : 2 ^ j ≤ 65536 := Nat.le_trans (Nat.pow_le_pow_right (by decide) hj) (pow_small d hd)
theorem pow2_step (j d : Nat) (hj : j ≤ d) (hd : d ≤ 16) : wrap64 (((2 ^ j : Nat) : Int) * 2) = ((2 ^ (j + 1) : Nat) : Int) := by
  have := pow2_small j d hj hd
  rw [show (((2 ^ j : Nat) : Int) * 2) = ((2 ^ (j + 1) : Nat) : Int) by rw [Nat.pow_succ]; omega, i64_nat _ (by rw [Nat.pow_succ]; omega)]
theorem rends_deep (p i : Int) (h : i < 0 ∨ 16 < i) (w : World) :
    Calls Tryd.prog 18 #[.int .i64 p, .int .i64 i] w fun e w' => e = .returned (.tuple #[.int .u64 0, .int .u64 0, .int .i64 1]) ∧ w = w' := by
  rcases h with h | h
  · have h1 : decide (i < 0) = true := decide_eq_true h
    go_enter Tryd.func18, Tryd.ntmps18
    go_wp2
    all_goals (go_ret3; exact ⟨rfl, rfl⟩)
  · have h1 : decide (i < 0) = false := decide_eq_false (by omega)
    have h2 : decide (16 < i) = true := decide_eq_true h
    go_enter Tryd.func18, Tryd.ntmps18
    go_wp2
    all_goals (go_ret3; exact ⟨rfl, rfl⟩)
theorem rends_neg (p : Int) (d : Nat) (hd : d ≤ 16) (hp : p < 0) (w : World) :
    Calls Tryd.prog 18 #[.int .i64 p, .int .i64 d] w fun e w' => e = .returned (.tuple #[.int .u64 0, .int .u64 0, .int .i64 1]) ∧ w = w' := by
  have h1 : decide ((d : Int) < 0) = false := decide_eq_false (by omega)
  have h2 : decide (16 < (d : Int)) = false := decide_eq_false (by omega)
  have h3 : decide (p < 0) = true := decide_eq_true hp
  go_enter Tryd.func18, Tryd.ntmps18
  go_wp2
  all_goals (go_ret3; exact ⟨rfl, rfl⟩)
theorem rends_big (p d : Nat) (hd : d ≤ 16) (hp : 2 ^ d ≤ p) (w : World) :
    Calls Tryd.prog 18 #[.int .i64 p, .int .i64 d] w fun e w' => e = .returned (.tuple #[.int .u64 0, .int .u64 0, .int .i64 1]) ∧ w = w' := by
  have h1 : decide ((d : Int) < 0) = false := decide_eq_false (by omega)
  have h2 : decide (16 < (d : Int)) = false := decide_eq_false (by omega)
  have h3 : decide ((p : Int) < 0) = false := decide_eq_false (by omega)
  go_enter Tryd.func18, Tryd.ntmps18
  go_wp2
  go_loopw [8, 7] (fun i s wr => ∃ j : Nat, j ≤ d ∧ i = .int .i64 j ∧ s = .int .i64 ((2 ^ j : Nat) : Int) ∧ wr = w) (fun i _ _ => d - (intOf i).toNat)
  case atStart => exact ⟨0, by omega, rfl, rfl, rfl⟩
  case round =>
    obtain ⟨j, hj, rfl, rfl, rfl⟩ := hrel
    have hs := Lib.hid (pow2_step j d hj hd)
    have hpp := Lib.hid hp
    clear hp
    rcases Nat.lt_or_ge j d with hjd | hjd
    · have hjd' : (j : Int) < (d : Int) := by omega
      generalize ((2 ^ j : Nat) : Int) = x at hs
      go_wp2
      go_roundw
      case rel => exact ⟨j + 1, by omega, by simp, by rw [hs.out], trivial⟩
      case measure => simp [intOf]; omega
    · obtain rfl : j = d := by omega
      have hge : decide (((2 ^ j : Nat) : Int) ≤ (p : Int)) = true := decide_eq_true (by have := hpp.out; omega)
      generalize ((2 ^ j : Nat) : Int) = x at hs hge
      go_wp2
      all_goals (go_ret3; exact ⟨rfl, rfl⟩)
theorem number_row (f : Nat → Nat) (hf : ∀ j, f j < 2) (g : Nat) (W : World) (hg : W.heap[g]? = some (.cells (rowOf f) 24 (0, 0))) :
    Calls Tryd.prog 13 #[.slice (some ⟨g, 0, none⟩) 64 64] W fun e w' => e = .returned (.int .u64 ((num f 64 : Nat) : Int)) ∧ W = w' :=
  number_any f (some ⟨g, 0, none⟩) 64 64 W (by decide) (fun j _ => hf j) (fun j hj => ⟨_, rfl, by rw [addr_add, Nat.zero_add]; exact rowOf_cell hg j hj⟩)
theorem ends_lo (p d : Nat) (hd : d ≤ 16) (hp : p < 2 ^ d) (g : Nat) (W : World) (n : Nat) (hg : W.heap[g]? = some (.cells (rowOf (loF p d 0)) 24 (0, 0))) :
    Calls Tryd.prog 13 #[.slice (some ⟨g, 0, none⟩) 64 64] (W.drewN n) fun e w' => e = .returned (.int .u64 ((lowN p d : Nat) : Int)) ∧ ∃ m, w' = W.drewN m := by
  have c := number_row (loF p d 0) (loF_lt p d 0) g (W.drewN n) hg
  rw [num_lo p d hd hp] at c
  exact quiet_same c
theorem ends_hi (p d : Nat) (hd : d ≤ 16) (hp : p < 2 ^ d) (g : Nat) (W : World) (n : Nat) (hg : W.heap[g]? = some (.cells (rowOf (hiF p d 0 64)) 24 (0, 0))) :
    Calls Tryd.prog 13 #[.slice (some ⟨g, 0, none⟩) 64 64] (W.drewN n) fun e w' => e = .returned (.int .u64 ((lowN p d + (2 ^ (64 - d) - 1) : Nat) : Int)) ∧ ∃ m, w' = W.drewN m := by
  have c := number_row (hiF p d 0 64) (hiF_lt p d 0 64) g (W.drewN n) hg
  rw [num_hi p d hd hp] at c
  exact quiet_same c
set_option maxRecDepth 100000 in
theorem rends_yes (p d : Nat) (hd : d ≤ 16) (hp : p < 2 ^ d) (w : World) :
    Calls Tryd.prog 18 #[.int .i64 p, .int .i64 d] w fun e w' => e = .returned (.tuple #[.int .u64 ((lowN p d : Nat) : Int), .int .u64 ((lowN p d + (2 ^ (64 - d) - 1) : Nat) : Int), .int .i64 0]) ∧ Below w.heap.size w w' := by
  have h1 : decide ((d : Int) < 0) = false := decide_eq_false (by omega)
  have h2 : decide (16 < (d : Int)) = false := decide_eq_false (by omega)
  have h3 : decide ((p : Int) < 0) = false := decide_eq_false (by omega)
  go_enter Tryd.func18, Tryd.ntmps18
  go_wp2
  go_loopw [8, 7] (fun i s wr => ∃ j : Nat, j ≤ d ∧ i = .int .i64 j ∧ s = .int .i64 ((2 ^ j : Nat) : Int) ∧ wr = w) (fun i _ _ => d - (intOf i).toNat)
  case atStart => exact ⟨0, by omega, rfl, rfl, rfl⟩
  case round =>
    obtain ⟨j, hj, rfl, rfl, hwr⟩ := hrel
    have hwr' := hwr.symm
    subst hwr'
    clear hwr
    have hs := Lib.hid (pow2_step j d hj hd)
    have hpp := Lib.hid hp
    clear hp
    rcases Nat.lt_or_ge j d with hjd | hjd
    · have hjd' : (j : Int) < (d : Int) := by omega
      generalize ((2 ^ j : Nat) : Int) = x at hs
      go_wp2
      go_roundw
      case rel => exact ⟨j + 1, by omega, by simp, by rw [hs.out], trivial⟩
      case measure => simp [intOf]; omega
    · obtain rfl : j = d := by omega
      have hge : decide (((2 ^ j : Nat) : Int) ≤ (p : Int)) = false := decide_eq_false (by have := hpp.out; omega)
      generalize ((2 ^ j : Nat) : Int) = x at hs hge
      go_wp2_with (first
        | (refine wpList_store_same (by rfl) 24 _ _ (by rfl) w.heap.size zeroA (by rfl) (by rfl) 24 (heap_alloc2_old w _ _) (info64 _ zeroA_size) zeroA_one ?_)
        | (refine wpList_store_same (by rfl) 24 _ _ (by rfl) (w.heap.size + 1) zeroA (by rfl) (by rfl) 24 (heap_alloc2_new w _ _) (info64 _ zeroA_size) zeroA_one ?_))
      have hE0 := EndsOk.start p j w
      have hE : EndsOk p j j j w _ := hE0
      clear hE0 hge hs
      go_loopw [12, 11] (fun i s W => ∃ k : Nat, k ≤ j ∧ i = .int .i64 ((k : Int) - 1) ∧ s = .int .i64 ((p / 2 ^ (j - k) : Nat) : Int) ∧ EndsOk p j k j w W) (fun i _ _ => (intOf i + 1).toNat)
      case atStart => exact ⟨j, by omega, rfl, by simp, hE⟩
      case round =>
        obtain ⟨k, hk, rfl, rfl, hE⟩ := hrel
        cases k with
        | zero =>
          have HE := Lib.hid hE
          clear hE
          go_wp2
          have hpr := hpp.out
          clear hpp hE
          go_loopw [13] (fun i W => ∃ m : Nat, j ≤ m ∧ m ≤ 64 ∧ i = .int .i64 m ∧ EndsOk p j 0 m w W) (fun i _ => 64 - (intOf i).toNat)
          case atStart => exact ⟨j, by omega, by omega, rfl, HE.out⟩
          case round =>
            obtain ⟨m, hm, hm64, rfl, hE⟩ := hrel
            rcases Nat.lt_or_ge m 64 with hlt | hge
            · obtain ⟨v2, c2⟩ := hE.hi_cell m hlt
              have f2 := frozen_of_row _ _ m _ _ hE.hi
              have hlt' : (m : Int) < 64 := by omega
              have HE := Lib.hid hE
              clear hE hpr
              go_wp2
              go_roundw
              case rel => exact ⟨m + 1, by omega, by omega, by simp, HE.out.up hm⟩
              case measure => simp [intOf]; omega
            · obtain rfl : m = 64 := by omega
              have c1 := fun n => ends_lo p j hd hpr w.heap.size wr n hE.lo
              have c2 := fun n => ends_hi p j hd hpr (w.heap.size + 1) wr n hE.hi
              have HB := Lib.hid hE.below
              clear hE hpr
              go_wp2_with fail
              go_quiet ((first
                | (go_at_call 13; (with_reducible exact c1 _))
                | (go_at_call 13; (with_reducible exact c2 _))))
              go_wp2
              go_ret3
              exact ⟨rfl, HB.out.trans ((drewN_below wr nq).mono HB.out.size)⟩
        | succ k =>
          obtain ⟨y, hy⟩ : ∃ y, p / 2 ^ (j - (k + 1)) = y := ⟨_, rfl⟩
          have hys : y < 65536 := by
            have h1 : y ≤ p := by rw [← hy]; exact Nat.div_le_self _ _
            have h2 := hpp.out
            have h3 := pow_small j hd
            omega
          have q1 : ((y : Nat) : Int) / 2 = ((p / 2 ^ (j - k) : Nat) : Int) := by
            rw [show j - k = (j - (k + 1)) + 1 by omega, Nat.pow_succ, ← Nat.div_div_eq_div_mul, hy]; omega
          have q2 : ((y : Nat) : Int) % 2 = ((loF p j k k : Nat) : Int) := by
            rw [loF_at p j k (by omega), hy]; omega
          have e1 : ((k + 1 : Nat) : Int) - 1 = (k : Int) := by omega
          rw [e1, hy]
          obtain ⟨v1, c1⟩ := hE.lo_cell k (by omega)
          obtain ⟨v2, c2⟩ := hE.hi_cell k (by omega)
          have f1 := frozen_of_row _ _ k _ _ hE.lo
          have f2 := frozen_of_row _ _ k _ _ hE.hi
          have hk64 : (k : Int) < 64 := by omega
          have HE := Lib.hid hE
          have Q1 := Lib.hid q1
          have Q2 := Lib.hid q2
          clear hE e1 q1 q2 hy
          go_wp2
          go_roundw
          case rel => exact ⟨k, by omega, rfl, by rw [Q1.out], by rw [Q2.out]; exact HE.out.down (by omega)⟩
          case measure => simp [intOf]
end Go.Proofs.YtiohlgkdlaiofaaDoor.split
