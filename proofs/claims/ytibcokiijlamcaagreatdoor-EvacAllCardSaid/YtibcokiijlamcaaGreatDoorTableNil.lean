/- table: the contracts without a lens; two tables side by side. -/
import Derived.Test.YtibcokiijlamcaaGreatDoorTableEntry
namespace Go.Proofs.YtibcokiijlamcaaGreatDoor.table
open Go.ChangeShapes Go.WideShapes Go.ChangeAt Go.RowKit Go.Shelf swar under trap meter group probe lens tail call
attribute [local go_sem] Oper.semAt_some stage.pureUpon move.stepUpon
set_option linter.unusedSimpArgs false
set_option linter.unusedVariables false

theorem TL.tstep {T B : Nat} {t : Tb} {m : Mt} {w w' : World} (h : TL T B t .nil m w w') : TStep T B t w w' := ⟨by simpa [Ln.d] using h.ln.past, h.at'⟩
theorem LnStep.nilB {m : Mt} {w w' : World} (h : LnStep [] .nil m w w') : Below w.heap.size w w' := by have := h.past; simp [Ln.d] at this; exact this.nil
/-- what the contracts ask without a lens -/
theorem Ready.nil {ae : String → Addr} {w W : World} {T B : Nat} {t : Tb} (hw : Base ae w) (hb : Below w.heap.size w W) (h : TAt T B t W) (ok : t.Ok) (hT : w.heap.size ≤ T) (hB : w.heap.size ≤ B) : Ready ae T B t .nil .zero W :=
  ⟨h, ok, trivial, .nil _ _, hw.bits.below hb hw.bits.lt, fun b hb => (by cases hb), Nat.le_trans hw.far hT, Nat.le_trans hw.far hB, errs6 (hw.errs.below hb)⟩
section
variable {ae : String → Addr} {T B : Nat} {t : Tb} {m : Mt} {w : World}
theorem put_nil (h : Ready ae T B t .nil .zero w) (key hs v : Nat) (hk : key < 18446744073709551616) (hh : hs < 18446744073709551616) (hv : v < 18446744073709551616) :
    Calls Tryz.prog 31 #[.pointer (some ⟨T, 0, none⟩), .agg #[.pointer none], group.entV key v hs] w fun e w' => e = .returned (.tuple #[.bool (putB' t key hs), errAt ae (putE' t key hs)]) ∧ TStep T B (t.puts key hs v) w w' :=
  (put_tab h key hs v hk hh hv).mono fun e w' ⟨he, hs⟩ => ⟨he, hs.tstep⟩
theorem delete_nil (h : Ready ae T B t .nil .zero w) (key hs : Nat) (hk : key < 18446744073709551616) (hh : hs < 18446744073709551616) :
    Calls Tryz.prog 105 #[.pointer (some ⟨T, 0, none⟩), .agg #[.pointer none], .int .u64 key, .int .u64 hs] w fun e w' => e = .returned (.tuple #[group.entV (entOf t key hs).key (entOf t key hs).val (entOf t key hs).hash, .bool (isThere t key hs)]) ∧ TStep T B (t.remove key hs) w w' :=
  (delete_tab h key hs hk hh).mono fun e w' ⟨he, hs⟩ => ⟨he, hs.tstep⟩
theorem find_nil (h : Ready ae T B t .nil .zero w) (key hs : Nat) (hk : key < 18446744073709551616) (hh : hs < 18446744073709551616) :
    Calls Tryz.prog 22 #[.pointer (some ⟨T, 0, none⟩), .agg #[.pointer none], .int .u64 key, .int .u64 hs] w fun e w' => e = .returned (.tuple #[group.entV (entOf t key hs).key (entOf t key hs).val (entOf t key hs).hash, .bool (isThere t key hs)]) ∧ Below w.heap.size w w' :=
  (find_tab h key hs hk hh).mono fun e w' ⟨he, hs⟩ => ⟨he, LnStep.nilB hs⟩
end
/-- the number of whatever error -/
theorem num_err (a : String → Addr) (k : Nat) (hk : k ≤ 16) (w : World) (h : errs.ErrsOk errs.names a w) :
    Calls Tryz.prog 14 #[errAt a k] w fun e w' => e = .returned (.int .i64 k) ∧ Below w.heap.size w w' := by
  cases k with
  | zero => exact (errs.num_nil w).mono fun e w' ⟨he, hw⟩ => ⟨he, hw ▸ Below.refl _ _⟩
  | succ k => exact errs.num_at a k (by omega) w h
theorem putE_le' (t : Tb) (key h : Nat) : putE' t key h = 0 ∨ putE' t key h = 2 := by
  unfold putE' roomE; split
  · exact .inl rfl
  · split
    · exact .inr rfl
    · split
      · exact .inr rfl
      · exact .inl rfl
/-! ### partial functions -/
theorem Rep.puts_any {t : Tb} {H : Nat → Nat} {M : Nat → Option Nat} (h : Rep H t M) {key v : Nat} (hkey : key < 18446744073709551616) (hh : H key < 18446744073709551616) (hv : v < 18446744073709551616) :
    ∃ M', Rep H (t.puts key (H key) v) M' ∧ ∀ k, k ≠ key → M' k = M k := by
  obtain ⟨h1, h2⟩ := h.puts hkey hh hv
  by_cases hc : (M key).isSome = true ∨ 1 ≤ t.left
  · exact ⟨_, (h1 hc).1, fun k hk => set_ne _ _ hk⟩
  · have hs : (M key).isSome = false := by cases e : (M key).isSome; rfl; exact absurd (.inl e) hc
    have hl : t.left < 1 := by
      apply Classical.byContradiction; intro hn; exact hc (.inr (by omega))
    rw [(h2 hs hl).1]
    exact ⟨M, h, fun _ _ => rfl⟩
/-- two tables, each in blocks of its own, and the box of the lens -/
structure L2 (w : World) (T1 B1 T2 B2 Bl : Nat) (t1 t2 : Tb) (W : World) : Prop where
  below : Below w.heap.size w W
  a1 : TAt T1 B1 t1 W
  a2 : TAt T2 B2 t2 W
  ok1 : t1.Ok
  ok2 : t2.Ok
  cl : W.cell? ⟨Bl, 0, none⟩ = some (.pointer none)
  h1 : w.heap.size ≤ T1
  h2 : w.heap.size ≤ B1
  h3 : w.heap.size ≤ T2
  h4 : w.heap.size ≤ B2
  n1 : T2 ∉ [T1, B1]
  n2 : B2 ∉ [T1, B1]
  n3 : T1 ∉ [T2, B2]
  n4 : B1 ∉ [T2, B2]
  l1 : Bl ∉ [T1, B1]
  l2 : Bl ∉ [T2, B2]
section
variable {ae : String → Addr} {w : World} {T1 B1 T2 B2 Bl : Nat} {t1 t2 t' : Tb} {W W' : World}
theorem L2.read (h : L2 w T1 B1 T2 B2 Bl t1 t2 W) (hb : Below W.heap.size W W') : L2 w T1 B1 T2 B2 Bl t1 t2 W' :=
  ⟨under.below_step h.below hb, h.a1.below hb, h.a2.below hb, h.ok1, h.ok2, keepc hb h.cl, h.h1, h.h2, h.h3, h.h4, h.n1, h.n2, h.n3, h.n4, h.l1, h.l2⟩
theorem L2.s1 (h : L2 w T1 B1 T2 B2 Bl t1 t2 W) (ok : t'.Ok) (hs : TStep T1 B1 t' W W') : L2 w T1 B1 T2 B2 Bl t' t2 W' :=
  ⟨h.below.trans (hs.past.below h.below.size (by simp; exact ⟨h.h1, h.h2⟩)), hs.at', h.a2.past hs.past h.n1 h.n2, ok, h.ok2, hs.past.cell h.cl h.l1, h.h1, h.h2, h.h3, h.h4, h.n1, h.n2, h.n3, h.n4, h.l1, h.l2⟩
theorem L2.s2 (h : L2 w T1 B1 T2 B2 Bl t1 t2 W) (ok : t'.Ok) (hs : TStep T2 B2 t' W W') : L2 w T1 B1 T2 B2 Bl t1 t' W' :=
  ⟨h.below.trans (hs.past.below h.below.size (by simp; exact ⟨h.h3, h.h4⟩)), h.a1.past hs.past h.n3 h.n4, hs.at', h.ok1, ok, hs.past.cell h.cl h.l2, h.h1, h.h2, h.h3, h.h4, h.n1, h.n2, h.n3, h.n4, h.l1, h.l2⟩
theorem L2.r1 (h : L2 w T1 B1 T2 B2 Bl t1 t2 W) (hw : Base ae w) : Ready ae T1 B1 t1 .nil .zero W := .nil hw h.below h.a1 h.ok1 h.h1 h.h2
theorem L2.r2 (h : L2 w T1 B1 T2 B2 Bl t1 t2 W) (hw : Base ae w) : Ready ae T2 B2 t2 .nil .zero W := .nil hw h.below h.a2 h.ok2 h.h3 h.h4
theorem L2.new1 (h : L2 w T1 B1 T2 B2 Bl t1 t2 W) {X : Nat} (hX : W.heap.size ≤ X) : X ∉ [T1, B1] := by have := h.a1.lt; have := h.a1.lb; simp; omega
theorem L2.new2 (h : L2 w T1 B1 T2 B2 Bl t1 t2 W) {X : Nat} (hX : W.heap.size ≤ X) : X ∉ [T2, B2] := by have := h.a2.lt; have := h.a2.lb; simp; omega
theorem L2.start {w1 w2 : World} {t : Tb} (h1 : TAt T1 B1 t w1) (hb1 : Below w.heap.size w w1) (ok : t.Ok) (k1 : w.heap.size ≤ T1) (k2 : w.heap.size ≤ B1) (h2 : TAt T2 B2 t w2) (hb2 : Below w1.heap.size w1 w2) (k3 : w1.heap.size ≤ T2) (k4 : w1.heap.size ≤ B2) :
    L2 w T1 B1 T2 B2 w2.heap.size t t (w2.alloc (.cells #[.pointer none] 66)) := by
  have l1 := h1.lt
  have l2 := h1.lb
  have l3 := h2.lt
  have l4 := h2.lb
  have l5 := hb2.size
  have l6 := hb1.size
  exact ⟨under.below_step (under.below_step hb1 hb2) (new_block w2 _), (h1.below hb2).below (new_block w2 _), h2.below (new_block w2 _), ok, ok, newc w2 _ _, k1, k2, by omega, by omega, by simp; omega, by simp; omega, by simp; omega, by simp; omega, by simp; omega, by simp; omega⟩
end
end Go.Proofs.YtibcokiijlamcaaGreatDoor.table
