/- TabEnt: several texts in one: plain facts and laws for the walks. No program is named. -/
import Derived.Test.YteedbnoefnlidaaGreatDoorTabNew
import Derived.Test.YteedbnoefnlidaaGreatDoorTabMath

/-! ### table: the laws' acts: the entry of a key by its number; a table without a lens. -/
namespace Go.Proofs.YteedbnoefnlidaaGreatDoor.table
open Go.ChangeShapes Go.WideShapes Go.ChangeAt Go.RowKit Go.Shelf swar under trap meter group probe lens tail call
attribute [local go_sem] Oper.semAt_some stage.pureUpon move.stepUpon
set_option linter.unusedSimpArgs false
set_option linter.unusedVariables false

/-- the hashes, as they lie -/
def HashAt (s : Option Addr) (la : Nat) (w : World) (hz : Nat → Nat) : Prop := ∀ j, j < la → ∃ x, s = some x ∧ hz j < 18446744073709551616 ∧ ∀ W, Below w.heap.size w W → W.cell? (x.add j) = some (.int .u64 (hz j : Nat))
/-- an act -/
structure Ac where
  kind : Int
  key : Int
  n : Int
def ActAt (s : Option Addr) (la : Nat) (w : World) (az : Nat → Ac) : Prop := ∀ j, j < la → (∃ x, s = some x ∧ ∀ W, Below w.heap.size w W → W.cell? (x.add (j * 3)) = some (.int .i64 (az j).kind) ∧ W.cell? ⟨(x.add (j * 3)).block, (x.add (j * 3)).off + 1, none⟩ = some (.int .i64 (az j).key) ∧ W.cell? ⟨(x.add (j * 3)).block, (x.add (j * 3)).off + 2, none⟩ = some (.int .i64 (az j).n)) ∧
  -9223372036854775808 ≤ (az j).key ∧ (az j).key ≤ 9223372036854775807 ∧ -9223372036854775808 ≤ (az j).n ∧ (az j).n ≤ 9223372036854775807
theorem HashAt.below {s : Option Addr} {la : Nat} {w w' : World} {hz : Nat → Nat} (h : HashAt s la w hz) (hb : Below w.heap.size w w') : HashAt s la w' hz := fun j hj => by
  obtain ⟨x, h1, h2, h3⟩ := h j hj
  exact ⟨x, h1, h2, fun W hW => h3 W (under.below_step hb hW)⟩
theorem ActAt.below {s : Option Addr} {la : Nat} {w w' : World} {az : Nat → Ac} (h : ActAt s la w az) (hb : Below w.heap.size w w') : ActAt s la w' az := fun j hj => by
  obtain ⟨⟨x, h1, h3⟩, h2⟩ := h j hj
  exact ⟨⟨x, h1, fun W hW => h3 W (under.below_step hb hW)⟩, h2⟩
/-- a key's number, a value -/
def uN (x : Int) : Nat := (IntKind.u64.wrap x).toNat
def kN (key : Int) (la : Nat) : Nat := uN key % la
theorem uN_lt (x : Int) : uN x < 18446744073709551616 := by unfold uN; rw [IntKind.wrap_u64]; omega
theorem uN_cast (x : Int) : IntKind.u64.wrap x = ((uN x : Nat) : Int) := by unfold uN; rw [IntKind.wrap_u64]; omega
theorem kN_lt (key : Int) {la : Nat} (h : 1 ≤ la) : kN key la < la := Nat.mod_lt _ h
theorem w64_small (x : Nat) (h : x < 101) : wrap64 (x : Int) = x := by unfold wrap64; omega
theorem u64_small (x : Nat) (h : x < 101) : IntKind.u64.wrap (x : Int) = x := by rw [IntKind.wrap_u64]; omega
theorem ent_num (key : Int) {la : Nat} (h1 : 1 ≤ la) (h2 : la ≤ 100) : ((uN key : Nat) : Int) % (la : Int) = ((kN key la : Nat) : Int) ∧ wrap64 (((uN key : Nat) : Int) % (la : Int)) = ((kN key la : Nat) : Int) ∧ IntKind.u64.wrap ((kN key la : Nat) : Int) = ((kN key la : Nat) : Int) ∧ ((kN key la : Nat) : Int) < (la : Int) := by
  have hk := kN_lt key h1
  have e : ((uN key : Nat) : Int) % (la : Int) = ((kN key la : Nat) : Int) := rfl
  have hs : kN key la < 101 := by omega
  exact ⟨e, by rw [e]; exact w64_small _ hs, u64_small _ hs, by omega⟩
end Go.Proofs.YteedbnoefnlidaaGreatDoor.table

/-! ### table: the contracts without a lens; two tables side by side. -/
namespace Go.Proofs.YteedbnoefnlidaaGreatDoor.table
open Go.ChangeShapes Go.WideShapes Go.ChangeAt Go.RowKit Go.Shelf swar under trap meter group probe lens tail call
attribute [local go_sem] Oper.semAt_some stage.pureUpon move.stepUpon
set_option linter.unusedSimpArgs false
set_option linter.unusedVariables false

theorem TL.tstep {T B : Nat} {t : Tb} {m : Mt} {w w' : World} (h : TL T B t .nil m w w') : TStep T B t w w' := ⟨by simpa [Ln.d] using h.ln.past, h.at'⟩
theorem LnStep.nilB {m : Mt} {w w' : World} (h : LnStep [] .nil m w w') : Below w.heap.size w w' := by have := h.past; simp [Ln.d] at this; exact this.nil
/-- what the contracts ask without a lens -/
theorem Ready.nil {ae : String → Addr} {w W : World} {T B : Nat} {t : Tb} (hw : Base ae w) (hb : Below w.heap.size w W) (h : TAt T B t W) (ok : t.Ok) (hT : w.heap.size ≤ T) (hB : w.heap.size ≤ B) : Ready ae T B t .nil .zero W :=
  ⟨h, ok, trivial, .nil _ _, hw.bits.below hb hw.bits.lt, fun b hb => (by cases hb), Nat.le_trans hw.far hT, Nat.le_trans hw.far hB, errs6 (hw.errs.below hb)⟩
section
variable {ae : String → Addr} {T B : Nat} {t : Tb} {m : Mt} {w : World}
theorem put_nil (h : Ready ae T B t .nil .zero w) (key hs v : Nat) (hk : key < 18446744073709551616) (hh : hs < 18446744073709551616) (hv : v < 18446744073709551616) :
    Calls Tryz.prog 41 #[.pointer (some ⟨T, 0, none⟩), .agg #[.pointer none], group.entV key v hs] w fun e w' => e = .returned (.tuple #[.bool (putB' t key hs), errAt ae (putE' t key hs)]) ∧ TStep T B (t.puts key hs v) w w' :=
  (put_tab h key hs v hk hh hv).mono fun e w' ⟨he, hs⟩ => ⟨he, hs.tstep⟩
theorem delete_nil (h : Ready ae T B t .nil .zero w) (key hs : Nat) (hk : key < 18446744073709551616) (hh : hs < 18446744073709551616) :
    Calls Tryz.prog 58 #[.pointer (some ⟨T, 0, none⟩), .agg #[.pointer none], .int .u64 key, .int .u64 hs] w fun e w' => e = .returned (.tuple #[group.entV (entOf t key hs).key (entOf t key hs).val (entOf t key hs).hash, .bool (isThere t key hs)]) ∧ TStep T B (t.remove key hs) w w' :=
  (delete_tab h key hs hk hh).mono fun e w' ⟨he, hs⟩ => ⟨he, hs.tstep⟩
theorem find_nil (h : Ready ae T B t .nil .zero w) (key hs : Nat) (hk : key < 18446744073709551616) (hh : hs < 18446744073709551616) :
    Calls Tryz.prog 60 #[.pointer (some ⟨T, 0, none⟩), .agg #[.pointer none], .int .u64 key, .int .u64 hs] w fun e w' => e = .returned (.tuple #[group.entV (entOf t key hs).key (entOf t key hs).val (entOf t key hs).hash, .bool (isThere t key hs)]) ∧ Below w.heap.size w w' :=
  (find_tab h key hs hk hh).mono fun e w' ⟨he, hs⟩ => ⟨he, LnStep.nilB hs⟩
end
/-- the number of whatever error -/
theorem num_err (a : String → Addr) (k : Nat) (hk : k ≤ 16) (w : World) (h : errs.ErrsOk errs.names a w) :
    Calls Tryz.prog 15 #[errAt a k] w fun e w' => e = .returned (.int .i64 k) ∧ Below w.heap.size w w' := by
  cases k with
  | zero => exact (errs.num_nil w).mono fun e w' ⟨he, hw⟩ => ⟨he, hw ▸ Below.refl _ _⟩
  | succ k => exact errs.num_at a k (by omega) w h
theorem putE_le' (t : Tb) (key h : Nat) : putE' t key h = 0 ∨ putE' t key h = 2 := by
  unfold putE' roomE; split
  · exact .inl rfl
  · split
    · exact .inr rfl
    · split
      · exact .inr rfl
      · exact .inl rfl
/-! ### partial functions -/
theorem Rep.puts_any {t : Tb} {H : Nat → Nat} {M : Nat → Option Nat} (h : Rep H t M) {key v : Nat} (hkey : key < 18446744073709551616) (hh : H key < 18446744073709551616) (hv : v < 18446744073709551616) :
    ∃ M', Rep H (t.puts key (H key) v) M' ∧ ∀ k, k ≠ key → M' k = M k := by
  obtain ⟨h1, h2⟩ := h.puts hkey hh hv
  by_cases hc : (M key).isSome = true ∨ 1 ≤ t.left
  · exact ⟨_, (h1 hc).1, fun k hk => set_ne _ _ hk⟩
  · have hs : (M key).isSome = false := by cases e : (M key).isSome; rfl; exact absurd (.inl e) hc
    have hl : t.left < 1 := by
      apply Classical.byContradiction; intro hn; exact hc (.inr (by omega))
    rw [(h2 hs hl).1]
    exact ⟨M, h, fun _ _ => rfl⟩
/-- two tables, each in blocks of its own, and the box of the lens -/
structure L2 (w : World) (T1 B1 T2 B2 Bl : Nat) (t1 t2 : Tb) (W : World) : Prop where
  below : Below w.heap.size w W
  a1 : TAt T1 B1 t1 W
  a2 : TAt T2 B2 t2 W
  ok1 : t1.Ok
  ok2 : t2.Ok
  cl : W.cell? ⟨Bl, 0, none⟩ = some (.pointer none)
  h1 : w.heap.size ≤ T1
  h2 : w.heap.size ≤ B1
  h3 : w.heap.size ≤ T2
  h4 : w.heap.size ≤ B2
  n1 : T2 ∉ [T1, B1]
  n2 : B2 ∉ [T1, B1]
  n3 : T1 ∉ [T2, B2]
  n4 : B1 ∉ [T2, B2]
  l1 : Bl ∉ [T1, B1]
  l2 : Bl ∉ [T2, B2]
section
variable {ae : String → Addr} {w : World} {T1 B1 T2 B2 Bl : Nat} {t1 t2 t' : Tb} {W W' : World}
theorem L2.read (h : L2 w T1 B1 T2 B2 Bl t1 t2 W) (hb : Below W.heap.size W W') : L2 w T1 B1 T2 B2 Bl t1 t2 W' :=
  ⟨under.below_step h.below hb, h.a1.below hb, h.a2.below hb, h.ok1, h.ok2, keepc hb h.cl, h.h1, h.h2, h.h3, h.h4, h.n1, h.n2, h.n3, h.n4, h.l1, h.l2⟩
theorem L2.s1 (h : L2 w T1 B1 T2 B2 Bl t1 t2 W) (ok : t'.Ok) (hs : TStep T1 B1 t' W W') : L2 w T1 B1 T2 B2 Bl t' t2 W' :=
  ⟨h.below.trans (hs.past.below h.below.size (by simp; exact ⟨h.h1, h.h2⟩)), hs.at', h.a2.past hs.past h.n1 h.n2, ok, h.ok2, hs.past.cell h.cl h.l1, h.h1, h.h2, h.h3, h.h4, h.n1, h.n2, h.n3, h.n4, h.l1, h.l2⟩
theorem L2.s2 (h : L2 w T1 B1 T2 B2 Bl t1 t2 W) (ok : t'.Ok) (hs : TStep T2 B2 t' W W') : L2 w T1 B1 T2 B2 Bl t1 t' W' :=
  ⟨h.below.trans (hs.past.below h.below.size (by simp; exact ⟨h.h3, h.h4⟩)), h.a1.past hs.past h.n3 h.n4, hs.at', h.ok1, ok, hs.past.cell h.cl h.l2, h.h1, h.h2, h.h3, h.h4, h.n1, h.n2, h.n3, h.n4, h.l1, h.l2⟩
theorem L2.r1 (h : L2 w T1 B1 T2 B2 Bl t1 t2 W) (hw : Base ae w) : Ready ae T1 B1 t1 .nil .zero W := .nil hw h.below h.a1 h.ok1 h.h1 h.h2
theorem L2.r2 (h : L2 w T1 B1 T2 B2 Bl t1 t2 W) (hw : Base ae w) : Ready ae T2 B2 t2 .nil .zero W := .nil hw h.below h.a2 h.ok2 h.h3 h.h4
theorem L2.new1 (h : L2 w T1 B1 T2 B2 Bl t1 t2 W) {X : Nat} (hX : W.heap.size ≤ X) : X ∉ [T1, B1] := by have := h.a1.lt; have := h.a1.lb; simp; omega
theorem L2.new2 (h : L2 w T1 B1 T2 B2 Bl t1 t2 W) {X : Nat} (hX : W.heap.size ≤ X) : X ∉ [T2, B2] := by have := h.a2.lt; have := h.a2.lb; simp; omega
theorem L2.start {w1 w2 : World} {t : Tb} (h1 : TAt T1 B1 t w1) (hb1 : Below w.heap.size w w1) (ok : t.Ok) (k1 : w.heap.size ≤ T1) (k2 : w.heap.size ≤ B1) (h2 : TAt T2 B2 t w2) (hb2 : Below w1.heap.size w1 w2) (k3 : w1.heap.size ≤ T2) (k4 : w1.heap.size ≤ B2) :
    L2 w T1 B1 T2 B2 w2.heap.size t t (w2.alloc (.cells #[.pointer none] 55)) := by
  have l1 := h1.lt
  have l2 := h1.lb
  have l3 := h2.lt
  have l4 := h2.lb
  have l5 := hb2.size
  have l6 := hb1.size
  exact ⟨under.below_step (under.below_step hb1 hb2) (new_block w2 _), (h1.below hb2).below (new_block w2 _), h2.below (new_block w2 _), ok, ok, newc w2 _ _, k1, k2, by omega, by omega, by simp; omega, by simp; omega, by simp; omega, by simp; omega, by simp; omega, by simp; omega⟩
end
end Go.Proofs.YteedbnoefnlidaaGreatDoor.table

/-! ### table: how many keys stand, and how many of them ahead of a hash and key. No function is walked here. -/
namespace Go.Proofs.YteedbnoefnlidaaGreatDoor.table
open group probe swar split
set_option linter.unusedSimpArgs false
set_option linter.unusedVariables false

def cntM (la : Nat) (M : Nat → Option Nat) : Nat := (List.range la).countP fun k => (M k).isSome
def cntL (la : Nat) (M : Nat → Option Nat) (H : Nat → Nat) (hh ky : Nat) : Nat := (List.range la).countP fun k => (M k).isSome && lessB k (H k) ky hh
theorem countP_same {p q : Nat → Bool} {n : Nat} (h : ∀ k, k < n → q k = p k) : (List.range n).countP q = (List.range n).countP p :=
  List.countP_congr fun k hk => by rw [h k (List.mem_range.1 hk)]
theorem countP_one {p q : Nat → Bool} {a : Nat} (hp : p a = false) (hq : q a = true) (hne : ∀ k, k ≠ a → q k = p k) : ∀ n, a < n → (List.range n).countP q = (List.range n).countP p + 1
  | 0, h => absurd h (Nat.not_lt_zero _)
  | n + 1, h => by
    rw [List.range_succ, List.countP_append, List.countP_append, List.countP_singleton, List.countP_singleton]
    by_cases e : a = n
    · subst e
      rw [hq, hp, countP_same fun k hk => hne k (by omega)]; simp
    · rw [countP_one hp hq hne n (by omega), hne n (Ne.symm e)]; omega
theorem cntM_le (la : Nat) (M : Nat → Option Nat) : cntM la M ≤ la := by
  have := List.countP_le_length (p := fun k => (M k).isSome) (l := List.range la)
  rwa [List.length_range] at this
theorem cntL_le (la : Nat) (M : Nat → Option Nat) (H : Nat → Nat) (hh ky : Nat) : cntL la M H hh ky ≤ la := by
  have := List.countP_le_length (p := fun k => (M k).isSome && lessB k (H k) ky hh) (l := List.range la)
  rwa [List.length_range] at this
theorem cntL_zero (la : Nat) (M : Nat → Option Nat) (H : Nat → Nat) : cntL la M H 0 0 = 0 := by
  unfold cntL
  rw [List.countP_eq_zero]
  intro k _
  have : lessB k (H k) 0 0 = false := by rw [Bool.eq_false_iff, Ne, lessB_iff]; omega
  simp [this]
theorem cntM_none (la : Nat) : cntM la (fun _ => none) = 0 := by
  unfold cntM; rw [List.countP_eq_zero]; simp
theorem cntM_some {la key v : Nat} {M : Nat → Option Nat} (hk : key < la) : cntM la (set M key (some v)) = cntM la M + (if (M key).isSome = true then 0 else 1) := by
  cases h : (M key).isSome
  · exact countP_one (a := key) h (by rw [set_same]; rfl) (fun k e => by rw [set_ne _ _ e]) la hk
  · simp only [if_true, Nat.add_zero]
    refine countP_same fun k _ => ?_
    by_cases e : k = key
    · subst e; rw [set_same, h]; rfl
    · rw [set_ne _ _ e]
theorem cntM_del {la key : Nat} {M : Nat → Option Nat} (hk : key < la) : cntM la M = cntM la (set M key none) + (if (M key).isSome = true then 1 else 0) := by
  cases h : (M key).isSome
  · simp only [Bool.false_eq_true, if_false, Nat.add_zero]
    refine countP_same fun k _ => ?_
    by_cases e : k = key
    · subst e; rw [set_same, h]; rfl
    · rw [set_ne _ _ e]
  · exact countP_one (a := key) (by rw [set_same]; rfl) h (fun k e => by rw [set_ne _ _ e]) la hk
/-- a table of the first la keys, and how many there are -/
structure RepN (H : Nat → Nat) (la : Nat) (t : Tb) (M : Nat → Option Nat) : Prop where
  rep : Rep H t M
  far : ∀ k, la ≤ k → M k = none
  len : t.len = (cntM la M : Nat)
theorem RepN.new {n la : Nat} (hn : okN n) (H : Nat → Nat) : RepN H la (Tb.new n) fun _ => none := ⟨.new hn H, fun _ _ => rfl, by rw [cntM_none]; rfl⟩
theorem RepN.puts {H : Nat → Nat} {la : Nat} {t : Tb} {M : Nat → Option Nat} (h : RepN H la t M) {key v : Nat} (hk : key < la) (hkey : key < 18446744073709551616) (hh : H key < 18446744073709551616) (hv : v < 18446744073709551616) :
    ∃ M', RepN H la (t.puts key (H key) v) M' := by
  obtain ⟨h1, h2⟩ := h.rep.puts hkey hh hv
  by_cases hc : (M key).isSome = true ∨ 1 ≤ t.left
  · obtain ⟨a, _, _, b, _⟩ := h1 hc
    refine ⟨_, a, fun k hk' => by rw [set_ne _ _ (by omega)]; exact h.far k hk', ?_⟩
    rw [b, h.len, cntM_some hk]; split <;> omega
  · have hs : (M key).isSome = false := by cases e : (M key).isSome; rfl; exact absurd (.inl e) hc
    have hl : t.left < 1 := by
      apply Classical.byContradiction; intro hn; exact hc (.inr (by omega))
    rw [(h2 hs hl).1]
    exact ⟨M, h⟩
theorem RepN.remove {H : Nat → Nat} {la : Nat} {t : Tb} {M : Nat → Option Nat} (h : RepN H la t M) {key : Nat} (hk : key < la) : RepN H la (t.remove key (H key)) (set M key none) := by
  refine ⟨h.rep.remove key, fun k hk' => by rw [set_ne _ _ (by omega)]; exact h.far k hk', ?_⟩
  rw [h.rep.remove_len, h.len, cntM_del (M := M) hk]; split <;> omega
theorem Rep.at {H : Nat → Nat} {t : Tb} {M : Nat → Option Nat} (h : Rep H t M) {k : Nat} (e : (M k).isSome = true) : ∃ s ∈ ents t t.n, s.key = k ∧ s.hash = H k := by
  obtain ⟨v, hv⟩ := Option.isSome_iff_exists.1 e
  obtain ⟨i, j, hs, _⟩ := (h.2 k v).1 hv
  exact ⟨_, mem_ents.2 ⟨i, j, hs.1, hs.2.1, hs.2.2.1, rfl⟩, hs.2.2.2, h.1.hash _ _ _ hs⟩
theorem least_none {H : Nat → Nat} {la : Nat} {t : Tb} {M : Nat → Option Nat} (h : Rep H t M) {hh ky : Nat} (e : leastE t hh ky = none) : cntL la M H hh ky = cntM la M := by
  rcases leastE_is t hh ky with ⟨_, h2⟩ | ⟨m, h1, _⟩
  · refine countP_same fun k _ => ?_
    cases hM : (M k).isSome
    · rfl
    · obtain ⟨s, hs, rfl, h4⟩ := h.at hM
      have := h2 s hs
      rw [h4] at this
      rw [this]; rfl
  · rw [e] at h1; cases h1
theorem least_some {H : Nat → Nat} {la : Nat} {t : Tb} {M : Nat → Option Nat} (h : Rep H t M) (hN : ∀ k, la ≤ k → M k = none) {hh ky : Nat} {s : Sl} (e : leastE t hh ky = some s) :
    s.key < la ∧ M s.key = some s.val ∧ s.hash = H s.key ∧ lessB s.key s.hash ky hh = false ∧ cntL la M H s.hash (s.key + 1) = cntL la M H hh ky + 1 := by
  rcases leastE_is t hh ky with ⟨h1, _⟩ | ⟨m, h1, hm, h3, h4⟩
  · rw [e] at h1; cases h1
  · rw [e] at h1
    obtain rfl : s = m := by simpa using h1
    obtain ⟨i, j, hi, hj, hk3, hs⟩ := mem_ents.1 hm
    have hst : Stands t s.key i j := ⟨hi, hj, hk3, by rw [hs]⟩
    have hM : M s.key = some s.val := (h.2 _ _).2 ⟨i, j, hst, by rw [hs]⟩
    have hH : s.hash = H s.key := by have := h.1.hash _ _ _ hst; rwa [hs] at this
    have hla : s.key < la := by
      apply Classical.byContradiction; intro hn
      rw [hN _ (by omega)] at hM; cases hM
    refine ⟨hla, hM, hH, h3, ?_⟩
    refine countP_one (a := s.key) (by rw [← hH, h3]; simp) (by rw [hM, ← hH, (lessB_iff _ _ _ _).2 (by omega)]; rfl) (fun k hk => ?_) la hla
    cases hMk : (M k).isSome
    · rfl
    · obtain ⟨x, hx, hxk, hxh⟩ := h.at hMk
      have h5 := h4 x hx
      rw [hxk, hxh] at h5
      congr 1
      rw [Bool.eq_iff_iff, lessB_iff, lessB_iff]
      rw [Bool.eq_false_iff, Ne, lessB_iff, Bool.eq_false_iff, Ne, lessB_iff] at h5
      rw [Bool.eq_false_iff, Ne, lessB_iff] at h3
      omega
end Go.Proofs.YteedbnoefnlidaaGreatDoor.table
