/- dual: Find, Put, Delete, Len, Left, Ready, Groups of a dual. -/
import Derived.Test.YteedbnoefnlidaaGreatDoorDualDel
import Derived.Test.YteedbnoefnlidaaGreatDoorDualOps
namespace Go.Proofs.YteedbnoefnlidaaGreatDoor.dual
open Go.ChangeShapes Go.WideShapes Go.ChangeAt Go.RowKit Go.Shelf swar under trap meter group probe lens tail call table evac
attribute [local go_sem] Oper.semAt_some stage.pureUpon move.stepUpon
set_option linter.unusedSimpArgs false
set_option linter.unusedVariables false

theorem ptrs_cut (Y : Lay) (rd : Bool) (J : List Nat) : ptrs (cut Y rd) J = ptrs Y J := rfl
theorem block_add (x : Addr) (k : Nat) : (x.add k).block = x.block := by unfold Addr.add; split <;> rfl
section
variable {a : String → Addr} {w0 : World} {Y : Lay} {D n1 d : Nat} {dp : Int} {q : Nat} {tk : Bool} {t : Nat → Tb} {fp : List Nat} {w W W' : World} {L : Ln} {m : Mt}
/-- its box, with what all calls read -/
theorem DAt.box (h : DAt a w0 Y D n1 d dp q tk t fp W) : ∃ sB GT cT pm sU, DRow D (Y.n 0 + (Y.N - 1) * n1) q dp sB (.slice (some ⟨GT, 0, none⟩) (cut Y (rdy Y n1 q)).N cT) pm sU W ∧ pm.isSome = rdy Y n1 q ∧ (∀ j, j < (cut Y (rdy Y n1 q)).N → W.cell? ⟨GT, j, none⟩ = some (.pointer (some ⟨Y.T j, 0, none⟩))) ∧ GT ∈ fp ∧ GT ∉ Y.tall ∧ D ∈ fp ∧ D ∉ Y.tall := by
  rcases h with ⟨hq, h1, Q, GB, cB, GT, cT, h, rfl⟩ | ⟨hq, h1, Q, GT, cT, GU, cU, V, h, rfl⟩
  · rw [rdy_no hq]
    refine ⟨_, GT, cT, none, _, h.row, rfl, fun j hj => ?_, by simp [fpP], h.nGT.1, by simp [fpP], h.pl.nD⟩
    obtain rfl : j = 0 := by have : j < 1 := hj; omega
    exact h.gt
  · rw [rdy_yes hq]
    obtain ⟨sB, hr⟩ := h.row
    exact ⟨sB, GT, cT, some ⟨V, 0, none⟩, _, hr, rfl, h.gt, by simp [fpM], h.nGT.1, by simp [fpM], h.pl.nD⟩
theorem DAt.small (h : DAt a w0 Y D n1 d dp q tk t fp W) : Y.n 0 + (Y.N - 1) * n1 ≤ 192 ∧ 1 ≤ Y.n 0 ∧ 1 ≤ n1 := by
  obtain ⟨Q, p⟩ := h.pl
  have a1 := okN_le p.o0
  have a2 := okN_le p.o1
  have b1 := okN_pos p.o0
  have b2 := okN_pos p.o1
  have : (Y.N - 1) * n1 ≤ 2 * 64 := Nat.mul_le_mul (by have := p.N; omega) a2
  omega
theorem DAt.left (h : DAt a w0 Y D n1 d dp q tk t fp w) : Calls Tryz.prog 36 #[.pointer (some ⟨D, 0, none⟩)] w fun e w' => e = .returned (.int .i64 ((Y.n 0 + (Y.N - 1) * n1 - q : Nat) : Int)) ∧ Below w.heap.size w w' := by
  obtain ⟨sB, GT, cT, pm, sU, hr, _⟩ := h.box
  exact left_any h.le (by have := h.small; omega) hr
theorem DAt.ready (h : DAt a w0 Y D n1 d dp q tk t fp w) : Calls Tryz.prog 37 #[.pointer (some ⟨D, 0, none⟩)] w fun e w' => e = .returned (.bool (rdy Y n1 q)) ∧ w = w' := by
  obtain ⟨sB, GT, cT, pm, sU, hr, hp, _⟩ := h.box
  rw [← hp]
  exact ready_any hr
theorem DAt.groups (h : DAt a w0 Y D n1 d dp q tk t fp w) : Calls Tryz.prog 39 #[.pointer (some ⟨D, 0, none⟩)] w fun e w' => e = .returned (.int .i64 ((Y.n 0 + (Y.N - 1) * n1 : Nat) : Int)) ∧ w = w' := by
  obtain ⟨sB, GT, cT, pm, sU, hr, _⟩ := h.box
  exact groups_any hr
/-- in which tables a key is looked for -/
theorem DAt.where' (h : DAt a w0 Y D n1 d dp q tk t fp w) (hl : LnAt L m w) (hd : ∀ b ∈ L.d, w0.heap.size ≤ b ∧ b ∉ fp) (hs : Nat) (hh : hs < 18446744073709551616) : ∀ W, Below w.heap.size w W → Calls Tryz.prog 49 #[.pointer (some ⟨D, 0, none⟩), .int .u64 (hs : Nat)] W fun e w' => ∃ o c, e = .returned (.slice o (js (rdy Y n1 q) Y.N d hs).length c) ∧ PtrsAt o (ptrs (cut Y (rdy Y n1 q)) (js (rdy Y n1 q) Y.N d hs)) w' ∧ (∀ x, o = some x → x.block ∉ L.d ∧ x.block ∉ (cut Y (rdy Y n1 q)).tall ∧ (x.block < w.heap.size ∨ W.heap.size ≤ x.block)) ∧ Below W.heap.size W w' := by
  intro W hb
  rcases h with ⟨hq, h1, Q, GB, cB, GT, cT, h, rfl⟩ | ⟨hq, h1, Q, GT, cT, GU, cU, V, h, rfl⟩
  · rw [rdy_no hq]
    refine (where_no (h.read hb).row hs).mono fun e w' ⟨he, hw⟩ => ?_
    subst hw
    refine ⟨some ⟨GT, 0, none⟩, cT, he, fun j hj => ?_, fun x hx => ?_, Below.refl _ _⟩
    · obtain rfl : j = 0 := by simp [ptrs, js] at hj; exact hj
      refine ⟨_, rfl, ?_⟩
      rw [add_at]
      exact (h.read hb).gt
    · injection hx with hx
      subst hx
      have := World.block_lt_of_cell? _ _ h.gt
      exact ⟨fun e => (hd _ e).2 (by simp [fpP]), fun e => h.nGT.1 (cut_tall h.pl.N e), .inl this⟩
  · rw [rdy_yes hq]
    have hr := h.read hb
    obtain ⟨sB, hrow⟩ := hr.row
    refine (where_yes h.pl.N h.pl.ld (by have := h.pl.N; omega) hrow hr.ev (hr.gt 0 (by have := h.pl.N; omega)) hs hh).mono fun e w' ⟨A, he, c0, c1, hA, hb'⟩ => ?_
    refine ⟨some ⟨A, 0, none⟩, 2, he, fun j hj => ?_, fun x hx => ?_, hb'⟩
    · refine ⟨_, rfl, ?_⟩
      rw [add_at]
      have : j < 2 := by simpa [ptrs, js] using hj
      obtain rfl | rfl : j = 0 ∨ j = 1 := by omega
      · exact c0
      · exact c1
    · injection hx with hx
      subst hx
      have hz := hb.size
      have hlt := hl.lt
      have htl := h.re.lt
      exact ⟨fun e => (by have hx : A < w.heap.size := hlt _ e; omega), fun e => (by have hx : A < w.heap.size := htl _ e; omega), .inr hA⟩
theorem DAt.hd (h : DAt a w0 Y D n1 d dp q tk t fp w) (hd : ∀ b ∈ L.d, w0.heap.size ≤ b ∧ b ∉ fp) : ∀ b ∈ L.d, w0.heap.size ≤ b ∧ b ∉ (cut Y (rdy Y n1 q)).tall := fun b hb => ⟨(hd b hb).1, fun e => (hd b hb).2 (h.tin b (cut_tall h.N e))⟩
theorem DAt.find (h : DAt a w0 Y D n1 d dp q tk t fp w) (hl : LnAt L m w) (hd : ∀ b ∈ L.d, w0.heap.size ≤ b ∧ b ∉ fp) (key hs : Nat) (hk : key < 18446744073709551616) (hh : hs < 18446744073709551616) :
    Calls Tryz.prog 18 #[.pointer (some ⟨D, 0, none⟩), .agg #[.pointer L.p], .int .u64 (key : Nat), .int .u64 (hs : Nat)] w fun e w' => e = .returned (.tuple #[group.entV (fndE t key hs (js (rdy Y n1 q) Y.N d hs)).key (fndE t key hs (js (rdy Y n1 q) Y.N d hs)).val (fndE t key hs (js (rdy Y n1 q) Y.N d hs)).hash, .bool (fnd t key hs (js (rdy Y n1 q) Y.N d hs)).isSome]) ∧ DAt a w0 Y D n1 d dp q tk t fp w' ∧ LnStep [] L (L.see m (fndK t key hs (js (rdy Y n1 q) Y.N d hs))) w w' :=
  (find_core a w0 (cut Y (rdy Y n1 q)) t D key hs hk hh L m (js (rdy Y n1 q) Y.N d hs) (by have := js_le (rdy Y n1 q) Y.N d hs; omega) (js_lt h.N _ d hs) w h.re hl (h.hd hd) (h.where' hl hd hs hh)).mono fun e w' ⟨he, hs'⟩ => ⟨he, h.aside (l := L.d) (by simpa using hs'.past) hd, hs'⟩
theorem DAt.tabs (h : DAt a w0 Y D n1 d dp q tk t fp w) (hd : ∀ b ∈ L.d, w0.heap.size ≤ b ∧ b ∉ fp) {t' : Nat → Tb} {m' : Mt} (hr : Real a w0 (cut Y (rdy Y n1 q)) t' W') (hs : LnStep (cut Y (rdy Y n1 q)).tall L m' w W') (ht : rdy Y n1 q = false → ∀ j, 1 ≤ j → t' j = t j) : DAt a w0 Y D n1 d dp q tk t' fp W' :=
  h.past hs.past (fun b hb => (List.mem_append.1 hb).elim .inr fun hb => .inl (hd b hb).2) hr ht
theorem dT_off {key hs v N d : Nat} {more : Bool} {rd : Bool} (hrd : rd = false) : ∀ j, 1 ≤ j → dT t key hs v (js rd N d hs) more j = t j := fun j hj => by
  subst hrd
  have e : dI t key hs (js false N d hs) = 0 := by
    unfold dI
    cases hf : fnd t key hs (js false N d hs) with
    | none => rfl
    | some i =>
      have := (fnd_some hf).1
      simpa [js] using this
  unfold dT
  split
  · rw [e, up_ne _ _ (by omega)]
  · rfl
theorem eT_off {key hs N d : Nat} {rd : Bool} (hrd : rd = false) : ∀ j, 1 ≤ j → eT t key hs (js rd N d hs) j = t j := fun j hj => by
  subst hrd
  cases hf : fnd t key hs (js false N d hs) with
  | none => rw [del_off hf]
  | some i =>
    have := (fnd_some hf).1
    obtain rfl : i = 0 := by simpa [js] using this
    rw [del_found hf, up_ne _ _ (by omega)]
theorem DAt.put (h : DAt a w0 Y D n1 d dp q tk t fp w) (hl : LnAt L m w) (hd : ∀ b ∈ L.d, w0.heap.size ≤ b ∧ b ∉ fp) (key v hs : Nat) (hk : key < 18446744073709551616) (hv : v < 18446744073709551616) (hh : hs < 18446744073709551616) (more : Bool) :
    Calls Tryz.prog 12 #[.pointer (some ⟨D, 0, none⟩), .agg #[.pointer L.p], group.entV key v hs, .bool more] w fun e w' => e = .returned (.tuple #[.bool (dB t key hs (js (rdy Y n1 q) Y.N d hs) more), errAt a (dE t key hs (js (rdy Y n1 q) Y.N d hs) more)]) ∧ DAt a w0 Y D n1 d dp q tk (dT t key hs v (js (rdy Y n1 q) Y.N d hs) more) fp w' ∧ LnStep Y.tall L (L.see m (fndK t key hs (js (rdy Y n1 q) Y.N d hs))) w w' :=
  (put_core a w0 (cut Y (rdy Y n1 q)) t D key v hs hk hv hh more L m (js (rdy Y n1 q) Y.N d hs) (js_le (rdy Y n1 q) Y.N d hs).1 (by have := js_le (rdy Y n1 q) Y.N d hs; omega) (js_lt h.N _ d hs) w h.re hl (h.hd hd) (h.where' hl hd hs hh)).mono fun e w' ⟨he, hr, hs'⟩ => ⟨he, h.tabs hd hr hs' dT_off, hs'.mono fun b hb => cut_tall h.N hb⟩
theorem DAt.delete (h : DAt a w0 Y D n1 d dp q tk t fp w) (hl : LnAt L m w) (hd : ∀ b ∈ L.d, w0.heap.size ≤ b ∧ b ∉ fp) (key hs : Nat) (hk : key < 18446744073709551616) (hh : hs < 18446744073709551616) :
    Calls Tryz.prog 16 #[.pointer (some ⟨D, 0, none⟩), .agg #[.pointer L.p], .int .u64 (key : Nat), .int .u64 (hs : Nat)] w fun e w' => e = .returned (.tuple #[group.entV (fndE t key hs (js (rdy Y n1 q) Y.N d hs)).key (fndE t key hs (js (rdy Y n1 q) Y.N d hs)).val (fndE t key hs (js (rdy Y n1 q) Y.N d hs)).hash, .bool (fnd t key hs (js (rdy Y n1 q) Y.N d hs)).isSome]) ∧ DAt a w0 Y D n1 d dp q tk (eT t key hs (js (rdy Y n1 q) Y.N d hs)) fp w' ∧ LnStep Y.tall L (L.see m (fndK t key hs (js (rdy Y n1 q) Y.N d hs))) w w' :=
  (delete_core a w0 (cut Y (rdy Y n1 q)) t D key hs hk hh L m (js (rdy Y n1 q) Y.N d hs) (by have := js_le (rdy Y n1 q) Y.N d hs; omega) (js_lt h.N _ d hs) w h.re hl (h.hd hd) (h.where' hl hd hs hh)).mono fun e w' ⟨he, hr, hs'⟩ => ⟨he, h.tabs hd hr hs' eT_off, hs'.mono fun b hb => cut_tall h.N hb⟩
end
/-! ### Len -/
/-- how many entries the first so many tables have -/
def lenS (t : Nat → Tb) : Nat → Int
  | 0 => 0
  | k + 1 => lenS t k + (t k).len
theorem lenS_le {t : Nat → Tb} {N : Nat} (h : ∀ i, i < N → (t i).Ok) : ∀ k, k ≤ N → 0 ≤ lenS t k ∧ lenS t k ≤ 512 * (k : Int)
  | 0, _ => by simp [lenS]
  | k + 1, hk => by
    have a := lenS_le h k (by omega)
    have b := (h k (by omega)).bounds
    have e : lenS t (k + 1) = lenS t k + (t k).len := rfl
    rw [e]; omega
set_option maxRecDepth 20000 in
theorem len_core (a : String → Addr) (w0 : World) (Y : Lay) (t : Nat → Tb) (D GT cT : Nat) (hN : Y.N ≤ 3) (w : World) (hr : Real a w0 Y t w) (h4 : w.cell? ⟨D, 4, none⟩ = some (.slice (some ⟨GT, 0, none⟩) Y.N cT)) (hg : ∀ j, j < Y.N → w.cell? ⟨GT, j, none⟩ = some (.pointer (some ⟨Y.T j, 0, none⟩))) :
    Calls Tryz.prog 38 #[.pointer (some ⟨D, 0, none⟩)] w fun e w' => e = .returned (.int .i64 (lenS t Y.N)) ∧ w = w' := by
  go_enter Tryz.func38, Tryz.ntmps38
  go_wp2_with (fail)
  go_loopw [11, 3] (fun i n wr => ∃ j : Nat, j ≤ Y.N ∧ i = .int .i64 j ∧ n = .int .i64 (lenS t j) ∧ wr = w) (fun i _ _ => Y.N - (intOf i).toNat)
  case atStart => exact ⟨0, by omega, rfl, rfl, rfl⟩
  case round =>
    obtain ⟨j, hj, rfl, rfl, rfl⟩ := hrel
    rcases Nat.lt_or_ge j Y.N with hjl | hjl
    · have hji : (j : Int) < (Y.N : Int) := by omega
      have hc := hg j hjl
      have hadd : (⟨GT, 0, none⟩ : Addr).add j = ⟨GT, j, none⟩ := by rw [add_at, Nat.zero_add]
      have cL := len_any (Y.T j) (Y.B j) (t j) wr (hr.at' j hjl)
      have b1 := lenS_le hr.ok j (by omega)
      have b2 := (hr.ok j hjl).bounds
      have ew : IntKind.i64.wrap (lenS t j + (t j).len) = lenS t (j + 1) := IntWalk.i64_in _ (by omega)
      generalize lenS t j = x at *
      generalize (t j).len = y at *
      go_wp2_with (go_at_call 43; refine cL.mono ?_; rintro e w1 ⟨rfl, rfl⟩)
      go_roundw
      case rel => exact ⟨j + 1, by omega, by simp, rfl, trivial⟩
      case measure => simp [intOf]; omega
    · obtain rfl : j = Y.N := by omega
      go_wp2
      go_ret
      exact ⟨rfl, rfl⟩
theorem DAt.len {a : String → Addr} {w0 : World} {Y : Lay} {D n1 d : Nat} {dp : Int} {q : Nat} {tk : Bool} {t : Nat → Tb} {fp : List Nat} {w : World} (h : DAt a w0 Y D n1 d dp q tk t fp w) : Calls Tryz.prog 38 #[.pointer (some ⟨D, 0, none⟩)] w fun e w' => e = .returned (.int .i64 (lenS t (cut Y (rdy Y n1 q)).N)) ∧ w = w' := by
  obtain ⟨sB, GT, cT, pm, sU, hr, _, hg, _⟩ := h.box
  exact len_core a w0 (cut Y (rdy Y n1 q)) t D GT cT (by have := cut_le h.N (rdy Y n1 q); have := h.N; omega) w h.re hr.c4 hg
end Go.Proofs.YteedbnoefnlidaaGreatDoor.dual
