/- CopyBegun: a copyist of a directory with entries, and its model. -/
import Derived.Test.YtmbdfoobnkanlaaDoorCopyRun
namespace Go.Proofs.YtmbdfoobnkanlaaDoor.copyist
open Go.ChangeShapes Go.WideShapes Go.ChangeAt Go.RowKit split trap errs dir meter
set_option linter.unusedSimpArgs false
set_option linter.unusedVariables false

/-- a list of numbers that lies below -/
def IdsAt (s : Option Addr) (la : Nat) (w : World) (zs : Nat → Int) : Prop := ∀ j, j < la → ∃ x, s = some x ∧ ∀ W, Below w.heap.size w W → W.cell? (x.add j) = some (.int .i64 (zs j))
theorem begun_bad (a : String → Addr) (i : Int) (hi : i < 0 ∨ 5 < i) (s : Option Addr) (la ca : Nat) (w : World) (hE : Er a w) :
    Calls Tryd.prog 6 #[.int .i64 i, .slice s la ca] w fun e w' => e = .returned (.tuple #[.pointer none, .pointer none, errV (a "ambler/api.ErrNone")]) ∧ Below w.heap.size w w' := by
  have cN := dir.new_no i hi w _ hE.r
  have cC := fun q => new_nil (w.drewN q) _ (hE.below (dir.drewN_below w q)).n
  clear hE
  go_enter Tryd.func6, Tryd.ntmps6
  go_wp2_with (first
    | (go_at_call 22; refine cN.mono ?_; rintro e w1 ⟨rfl, q, rfl⟩)
    | (go_at_call 24; refine (cC q).mono ?_; rintro e w2 ⟨rfl, q2, rfl⟩))
  go_ret3
  exact ⟨rfl, dir.drewN_below w _⟩
/-- what a beginning answers -/
structure Begun (A N C R B G d : Nat) (f : Nat → Nat) (w W : World) : Prop where
  c : CAt C A N d f (fun _ => 0) 0 false W
  q : QAt R B G d f 0 false W
  below : Below w.heap.size w W
  lc : w.heap.size ≤ C
  la : w.heap.size ≤ A
  ln : w.heap.size ≤ N
  lr : w.heap.size ≤ R
  lb : w.heap.size ≤ B
  lg : w.heap.size ≤ G
  rest : ∀ x ∈ [R, B, G], x ≠ C ∧ x ≠ A ∧ x ≠ N
def Answer (a : String → Addr) (d : Nat) (w : World) (pc : Option Addr) (pr : Option Addr) (ev : Value) (W : World) : Prop :=
  (d = 5 ∧ pc = none ∧ ev = errV (a "ambler/api.ErrRange") ∧ Below w.heap.size w W) ∨
  (d ≤ 4 ∧ ∃ A N C R B G f, pc = some ⟨C, 0, none⟩ ∧ pr = some ⟨R, 0, none⟩ ∧ ev = .nilIface ∧ Begun A N C R B G d f w W)
theorem new_any (a : String → Addr) (A d : Nat) (f : Nat → Nat) (hd : d ≤ 5) (w : World) (h : DAt A d f w) (hE : Er a w) :
    Calls Tryd.prog 24 #[.pointer (some ⟨A, 0, none⟩)] w fun e w' => ∃ pc ev, e = .returned (.tuple #[.pointer pc, ev]) ∧ Below w.heap.size w w' ∧ ((d = 5 ∧ pc = none ∧ ev = errV (a "ambler/api.ErrRange")) ∨ (d ≤ 4 ∧ ∃ C, pc = some ⟨C, 0, none⟩ ∧ ev = .nilIface ∧ w.heap.size < C ∧ CAt C A w.heap.size d f (fun _ => 0) 0 false w')) := by
  by_cases h5 : d = 5
  · subst h5
    refine (new_far A f w h _ hE.r).mono ?_
    rintro e w' ⟨rfl, q, rfl⟩
    exact ⟨none, _, rfl, dir.drewN_below w q, .inl ⟨rfl, rfl, rfl⟩⟩
  · refine (new_yes A d f (by omega) w h).mono ?_
    rintro e w' ⟨C, rfl, hC, hc, hb⟩
    exact ⟨_, _, rfl, hb, .inr ⟨by omega, C, rfl, rfl, hC, hc⟩⟩
set_option maxRecDepth 20000 in
set_option maxHeartbeats 4000000 in
theorem begun_any (a : String → Addr) (d : Nat) (hd : d ≤ 5) (s : Option Addr) (la ca : Nat) (zs : Nat → Int) (hl : la ≤ 40) (w : World) (hE : Er a w) (hI : IdsAt s la w zs) :
    Calls Tryd.prog 6 #[.int .i64 d, .slice s la ca] w fun e w' => ∃ pc pr ev, e = .returned (.tuple #[.pointer pc, .pointer pr, ev]) ∧ Answer a d w pc pr ev w' := by
  have HE := Lib.hid hE
  have HI := Lib.hid hI
  clear hE hI
  go_enter Tryd.func6, Tryd.ntmps6
  go_wp2_with (first
    | (go_at_call 22; refine (dir.new_yes d hd _).mono ?_; rintro e w2 ⟨rfl, hd2, hb2⟩)
    | (go_at_call 25; refine (rnew_yes d hd _).mono ?_; rintro e w3 ⟨rfl, hd3, hb3⟩))
  have h2 := hd2.lt
  have h21 := hb2.size
  have hT : Two w.heap.size (w2.heap.size + 1) w2.heap.size d (fun _ => 0) (fun _ => 0) w w3 :=
    ⟨hd2.below hb3, hd3, under.below_step hb2 hb3, Nat.le_refl _, by omega, by omega, by omega, by omega⟩
  generalize hA0 : w.heap.size = A at hT
  generalize hB0 : w2.heap.size + 1 = B at hT
  generalize hG0 : w2.heap.size = G at hT
  clear hd2 hd3 hb2 hb3 h2 h21 hA0 hB0 hG0
  go_loopw [37] (fun i W => ∃ j : Nat, j ≤ la ∧ i = .int .i64 j ∧ ∃ f, Two A B G d f f w W) (fun i _ => la - (intOf i).toNat)
  case atStart => exact ⟨0, by omega, rfl, _, hT⟩
  case round =>
    obtain ⟨j, hj, rfl, f, hS⟩ := hrel
    clear hT
    rcases Nat.lt_or_ge j la with hlt | hge
    · have hlt' : (j : Int) < (la : Int) := by omega
      obtain ⟨x, rfl, hc⟩ := HI.out j hlt
      have c0 := hc wr hS.below
      clear hc HI
      generalize zs j = z at c0
      have hr := (HE.out.below hS.below).r
      by_cases hyes : j < 2 ^ d ∧ 0 ≤ z
      · obtain ⟨hjd, hz⟩ := hyes
        obtain ⟨n, rfl⟩ := Int.eq_ofNat_of_zero_le hz
        have cP := put_yes A d f wr hS.a j n hjd
        have h32 := two_le d hd
        have hrow := fun W (hW : RAt B G d f W) => hW.row
        have hent := fun W (hW : RAt B G d f W) => hW.ent j hjd
        have hput := fun W (hW : RAt B G d f W) => hW.put j n hjd (setF f j (j + 1) n) (fun i => by rw [setF_next f j j n i (Nat.le_refl _), setF_none])
        generalize 2 ^ d = m at hrow hjd h32 hent
        have hj3 : (j : Int) < (m : Int) := by omega
        have HP := Lib.hid hput
        clear hput
        go_wp2_with (go_at_call 23; refine cP.mono ?_; rintro e w4 ⟨rfl, hp4, hd4⟩; have hS4 := hS.setA hp4 hd4; clear hp4 hd4 cP; have z1 := hrow _ hS4.b; have z2 := hent _ hS4.b; have z3 := hS4.b.fz j)
        have hS5 := hS4.setB ((Past.refl [G] w4).store (p := ⟨G, j, none⟩) (.inl (by simp)) (.int .i64 (n : Nat))) (HP.out _ hS4.b)
        have H5 := Lib.hid hS5
        clear hS4 hS5 z1 z2 z3 hrow hent
        go_roundw
        case rel => exact ⟨j + 1, by omega, by simp, _, H5.out⟩
        case measure => simp [intOf]; omega
      · have cP : Calls Tryd.prog 23 #[.pointer (some ⟨A, 0, none⟩), .int .i64 j, .int .i64 z] wr fun e w' => e = .returned (errV (a "ambler/api.ErrRange")) ∧ wr = w' := by
          by_cases hjd : j < 2 ^ d
          · exact put_neg A d f wr hS.a j z hjd (by omega) _ hr
          · exact put_no A d f wr hS.a j z (.inr (by omega)) _ hr
        go_wp2_with (go_at_call 23; refine cP.mono ?_; rintro e w4 ⟨rfl, rfl⟩)
        go_roundw
        case rel => exact ⟨j + 1, by omega, by simp, _, hS⟩
        case measure => simp [intOf]; omega
    · obtain rfl : j = la := by omega
      clear HI
      have cN := new_any a A d f hd wr hS.a (HE.out.below hS.below)
      go_wp2_with (go_at_call 24; refine cN.mono ?_; rintro e w5 ⟨pc, ev, rfl, hb5, hans⟩)
      go_ret3
      have hS5 := hS.past hb5
      have hb6 := new_block w5 (.cells #[.pointer (some ⟨B, 0, none⟩), .int .i64 0, .bool false] 48)
      have hS6 := hS5.past hb6
      refine ⟨pc, some ⟨w5.heap.size, 0, none⟩, ev, rfl, ?_⟩
      rcases hans with ⟨rfl, rfl, rfl⟩ | ⟨h4, C, rfl, rfl, hC, hc⟩
      · exact .inl ⟨rfl, rfl, rfl, hS6.below⟩
      · have k1 := hS.a.lt
        have k2 := hS.b.lt
        have k3 := hS.b.lg
        have k4 := hc.lt
        have k5 := hb5.size
        have k6 := hS.below.size
        refine .inr ⟨h4, A, wr.heap.size, C, w5.heap.size, B, G, f, rfl, rfl, rfl, ⟨hc.below hb6, ⟨h4, World.alloc_heap_new w5 _, hS6.b, Nat.zero_le _, by omega, by omega⟩, hS6.below, by omega, hS.la, k6, by omega, hS.lb, hS.lg, ?_⟩⟩
        intro x hx
        have ab := hS.ab
        have ag := hS.ag
        simp at hx
        rcases hx with rfl | rfl | rfl
        · exact ⟨by omega, by omega, by omega⟩
        · exact ⟨by omega, fun e => ab e.symm, by omega⟩
        · exact ⟨by omega, fun e => ag e.symm, by omega⟩
end Go.Proofs.YtmbdfoobnkanlaaDoor.copyist
