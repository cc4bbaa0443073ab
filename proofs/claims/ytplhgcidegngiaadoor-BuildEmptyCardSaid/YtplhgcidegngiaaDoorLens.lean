/- group: Look by whatever lens: of none, of a meter's probes, of its visits. -/
import Derived.Test.YtplhgcidegngiaaDoorGroupFns
namespace Go.Proofs.YtplhgcidegngiaaDoor.lens
open Go.RowKit errs under trap meter group
set_option linter.unusedSimpArgs false
set_option linter.unusedVariables false

/-- a lens: of none; of the probes, of the visits of the meter at a place -/
inductive Ln where
  | nil : Ln
  | pr : Nat → Nat → Ln
  | vi : Nat → Nat → Ln
def Ln.v : Ln → Value
  | .nil => .agg #[.pointer none]
  | .pr B o => .agg #[.pointer (some ⟨B, o, none⟩)]
  | .vi B o => .agg #[.pointer (some ⟨B, o + 2, none⟩)]
/-- the pointer in a lens -/
def Ln.p : Ln → Option Addr
  | .nil => none
  | .pr B o => some ⟨B, o, none⟩
  | .vi B o => some ⟨B, o + 2, none⟩
theorem Ln.v_p (L : Ln) : L.v = .agg #[.pointer L.p] := by cases L <;> rfl
/-- the block of its meter -/
def Ln.d : Ln → List Nat
  | .nil => []
  | .pr B _ => [B]
  | .vi B _ => [B]
/-- one look -/
def Ln.one : Ln → Mt → Mt
  | .nil, m => m
  | .pr _ _, m => m.probes 1
  | .vi _ _, m => m.visits 1
/-- what its meter holds behind so many looks -/
def Ln.see (L : Ln) (m : Mt) : Nat → Mt
  | 0 => m
  | k + 1 => L.one (L.see m k)
theorem Ln.see_zero (L : Ln) (m : Mt) : L.see m 0 = m := rfl
theorem Ln.see_succ (L : Ln) (m : Mt) (k : Nat) : L.see m (k + 1) = L.one (L.see m k) := rfl
theorem Ln.see_one (L : Ln) (m : Mt) : L.see m 1 = L.one m := by rw [L.see_succ, L.see_zero]
theorem Ln.see_add (L : Ln) (m : Mt) (j : Nat) : ∀ k, L.see m (j + k) = L.see (L.see m j) k
  | 0 => by rw [Nat.add_zero, L.see_zero]
  | k + 1 => by rw [← Nat.add_assoc, L.see_succ, L.see_succ, Ln.see_add L m j k]
def LnAt : Ln → Mt → World → Prop
  | .nil, _, _ => True
  | .pr B o, m, w => MAt B o m w
  | .vi B o, m, w => MAt B o m w
def LnSide : Ln → World → World → Prop
  | .nil, _, _ => True
  | .pr B o, w, w' => Side B o w w'
  | .vi B o, w, w' => Side B o w w'
/-- a step in which the lens' meter comes to hold m, and what lies in the blocks d besides is said elsewhere -/
structure LnStep (d : List Nat) (L : Ln) (m : Mt) (w w' : World) : Prop where
  past : Past (d ++ L.d) w w'
  side : LnSide L w w'
  at' : LnAt L m w'
theorem LnAt.lt {L : Ln} {m : Mt} {w : World} (h : LnAt L m w) : ∀ b ∈ L.d, b < w.heap.size := by
  cases L with
  | nil => intro b hb; cases hb
  | pr B o => intro b hb; obtain rfl : b = B := by simpa [Ln.d] using hb
              exact MAt.lt h
  | vi B o => intro b hb; obtain rfl : b = B := by simpa [Ln.d] using hb
              exact MAt.lt h
theorem LnAt.past {L : Ln} {m : Mt} {w w' : World} {d : List Nat} (h : LnAt L m w) (hb : Past d w w') (hd : ∀ b ∈ L.d, b ∉ d) : LnAt L m w' := by
  cases L with
  | nil => trivial
  | pr B o => exact MAt.past h hb (hd B (by simp [Ln.d]))
  | vi B o => exact MAt.past h hb (hd B (by simp [Ln.d]))
theorem LnAt.below {L : Ln} {m : Mt} {w w' : World} (h : LnAt L m w) (hb : Below w.heap.size w w') : LnAt L m w' := by
  cases L with
  | nil => trivial
  | pr B o => exact MAt.below h hb
  | vi B o => exact MAt.below h hb
theorem LnSide.of_past {L : Ln} {m : Mt} {w w' : World} {d : List Nat} (h : LnAt L m w) (hb : Past d w w') (hd : ∀ b ∈ L.d, b ∉ d) : LnSide L w w' := by
  cases L with
  | nil => trivial
  | pr B o => exact Side.of_block (hb.block B (MAt.lt h) (hd B (by simp [Ln.d])))
  | vi B o => exact Side.of_block (hb.block B (MAt.lt h) (hd B (by simp [Ln.d])))
theorem LnSide.trans {L : Ln} {x y z : World} (h : LnSide L x y) (k : LnSide L y z) : LnSide L x z := by
  cases L with
  | nil => trivial
  | pr B o => exact Side.trans h k
  | vi B o => exact Side.trans h k
theorem LnStep.of_past {d : List Nat} {L : Ln} {m : Mt} {w w' : World} (h : LnAt L m w) (hp : Past d w w') (hd : ∀ b ∈ L.d, b ∉ d) : LnStep d L m w w' :=
  ⟨hp.mono fun k hk => List.mem_append_left _ hk, .of_past h hp hd, h.past hp hd⟩
theorem LnStep.of {L : Ln} {m : Mt} {w w' : World} (d : List Nat) (h : LnAt L m w) (hb : Below w.heap.size w w') : LnStep d L m w w' :=
  ⟨Past.of hb, .of_past (d := []) h (Past.of hb) (fun _ _ => by simp), h.below hb⟩
theorem LnStep.refl {L : Ln} {m : Mt} {w : World} (d : List Nat) (h : LnAt L m w) : LnStep d L m w w := .of d h (Below.refl _ _)
theorem LnStep.trans {d : List Nat} {L : Ln} {m m' : Mt} {x y z : World} (h : LnStep d L m x y) (k : LnStep d L m' y z) : LnStep d L m' x z := ⟨h.past.trans k.past, h.side.trans k.side, k.at'⟩
theorem LnStep.below {d : List Nat} {L : Ln} {m : Mt} {x y z : World} (h : LnStep d L m x y) (k : Below y.heap.size y z) : LnStep d L m x z := h.trans (.of d h.at' k)
theorem LnStep.mono {d d' : List Nat} {L : Ln} {m : Mt} {x y : World} (h : LnStep d L m x y) (hd : ∀ b ∈ d, b ∈ d') : LnStep d' L m x y := ⟨h.past.mono fun b hb => by
  rcases List.mem_append.1 hb with hb | hb
  · exact List.mem_append_left _ (hd b hb)
  · exact List.mem_append_right _ hb, h.side, h.at'⟩
/-- a store into a block that is new -/
theorem LnStep.newset {d : List Nat} {L : Ln} {m : Mt} {w w' : World} (h : LnStep d L m w w') (hd : ∀ b ∈ L.d, b < w.heap.size) {p : Addr} (hp : w.heap.size ≤ p.block) (u : Value) : LnStep d L m w (w'.setCell p u) := by
  have k : Past [p.block] w' (w'.setCell p u) := (Past.refl [p.block] w').store (.inl (by simp)) u
  have n : ∀ b ∈ L.d, b ∉ [p.block] := fun b hb => by have := hd b hb; simp; omega
  exact ⟨h.past.store (.inr hp) u, h.side.trans (.of_past h.at' k n), h.at'.past k n⟩
theorem LnAt.nd {L : Ln} {m : Mt} {w : World} (h : LnAt L m w) {b : Nat} (hb : w.heap.size ≤ b) : b ∉ L.d := fun he => by have := h.lt b he; omega
/-- Look -/
theorem look_any (B o : Nat) (L : Ln) (m : Mt) (w : World) (h : LnAt L m w) :
    Calls Tryd.prog 33 #[.pointer (some ⟨B, o, none⟩), .agg #[.pointer L.p]] w fun e w' => e = .returned (.agg #[.pointer (some ⟨B, o, none⟩)]) ∧ LnStep [] L (L.one m) w w' := by
  cases L with
  | nil => exact (look_nil B o w).mono fun e w' ⟨he, hb⟩ => ⟨he, .of [] h hb⟩
  | pr Bm om => exact (look_probes B o Bm om m w h).mono fun e w' ⟨he, hs⟩ => ⟨he, by simpa [Ln.d] using hs.past, hs.side, hs.at'⟩
  | vi Bm om => exact (look_visits B o Bm om m w h).mono fun e w' ⟨he, hs⟩ => ⟨he, by simpa [Ln.d] using hs.past, hs.side, hs.at'⟩
end Go.Proofs.YtplhgcidegngiaaDoor.lens
