/- DualStA: several texts in one: plain facts and laws for the walks. No program is named. -/
import Derived.Test.YteedbnoefnlidaaGreatDoorDualFunA
import Derived.LoopTactic

/-! ### DualSteps: what a dual finds, to the last field; puts that always have room; three duals beside each other. -/
namespace Go.Proofs.YteedbnoefnlidaaGreatDoor.evac
open Go.ChangeShapes Go.WideShapes Go.ChangeAt Go.RowKit Go.Shelf swar under trap meter group probe lens tail call table
set_option linter.unusedSimpArgs false
set_option linter.unusedVariables false
open Go.Proofs.YteedbnoefnlidaaGreatDoor.dual (fnd fndE fndK js dB dE dT dI eT)

/-- the entry that a partial function says -/
def eOf (F : Nat → Option Nat) (H : Nat → Nat) (key : Nat) : Sl := match F key with
  | some v => ⟨3, key, v, H key⟩
  | none => ⟨1, 0, 0, 0⟩
section
variable {H : Nat → Nat} {la N d n1 : Nat} {F : Nat → Option Nat} {t : Nat → Tb} {M : Nat → Nat → Option Nat} {c : Nat} {rd : Bool}
theorem Du.ent (s : Du H la N d F t M c) (hN : N = 2 ∨ N = 3) (ht : rd = false → ∀ j, 1 ≤ j → t j = Tb.new n1) (key : Nat) : fndE t key (H key) (js rd N d (H key)) = eOf F H key := by
  rcases s.seek0 hN ht key with ⟨i, v, h1, h2, h3, h4⟩ | ⟨h1, h2, _⟩
  · have hi : i < N := by
      have := tgt_lt hN d (H key)
      rcases h4 with rfl | ⟨rfl, _⟩ <;> omega
    unfold fndE eOf
    rw [h1, h2]
    exact (s.rep i hi).rep.ent h3
  · unfold fndE eOf
    rw [h1, h2]
/-- as long as the old table has room, every Put has -/
theorem Du.roomy (s : Du H la N d F t M c) (hN : N = 2 ∨ N = 3) (ht : rd = false → ∀ j, 1 ≤ j → t j = Tb.new n1) (hla : la ≤ 1000) (hH : ∀ key, key < la → H key < 18446744073709551616) (hr : rd = true → ∀ i, 1 ≤ i → i < N → (c : Int) < 7 * ((t i).n : Int)) (h0 : rd = false → 1 ≤ (t 0).left) {key v : Nat} (hk : key < la) (hv : v < 18446744073709551616) :
    dB t key (H key) (js rd N d (H key)) true = !(F key).isSome ∧ dE t key (H key) (js rd N d (H key)) true = 0 ∧ (∃ M', Du H la N d (set F key (some v)) (dT t key (H key) v (js rd N d (H key)) true) M' (c + 1)) ∧ (rd = false → ∀ j, 1 ≤ j → dT t key (H key) v (js rd N d (H key)) true j = Tb.new n1) := by
  rcases s.dput hN ht hla hH hr hk hv with h | ⟨e0, e1, e2, e3, e4⟩
  · exact h
  · exfalso
    subst e0
    rcases s.seek0 hN ht key with ⟨i, v, _, h2, _⟩ | ⟨h1, h2, _⟩
    · rw [e1] at h2; cases h2
    · have eI : dI t key (H key) (js false N d (H key)) = 0 := by unfold dI; rw [h1]; rfl
      have eE : dE t key (H key) (js false N d (H key)) true = putE' (t 0) key (H key) := by unfold dE; rw [eI, h1]; rfl
      obtain ⟨_, q1, _⟩ := repN_put (s.rep 0 (by omega)) hk (show key < 18446744073709551616 by omega) (hH _ hk) hv (.inr (h0 rfl))
      rw [eE, q1] at e3
      cases e3
theorem dT_old (key hs v : Nat) (J : List Nat) (more : Bool) : (dT t key hs v J more 0).len + (dT t key hs v J more 0).tombs ≤ (t 0).len + (t 0).tombs + 1 := by
  unfold dT
  split
  · by_cases e : dI t key hs J = 0
    · rw [e, up_same]; exact puts_cnt ..
    · rw [up_ne _ _ (Ne.symm e)]; omega
  · omega
theorem eT_old (key hs : Nat) (J : List Nat) : (eT t key hs J 0).len + (eT t key hs J 0).tombs ≤ (t 0).len + (t 0).tombs := by
  cases hf : fnd t key hs J with
  | none => rw [dual.del_off hf]; exact Int.le_refl _
  | some i =>
    rw [dual.del_found hf]
    by_cases e : i = 0
    · subst e; rw [up_same]; exact remove_cnt ..
    · rw [up_ne _ _ (Ne.symm e)]; exact Int.le_refl _
end
end Go.Proofs.YteedbnoefnlidaaGreatDoor.evac
namespace Go.Proofs.YteedbnoefnlidaaGreatDoor.dual
open Go.ChangeShapes Go.WideShapes Go.ChangeAt Go.RowKit Go.Shelf swar under trap meter group probe lens tail call table evac
set_option linter.unusedSimpArgs false
set_option linter.unusedVariables false

/-- a dual that has room -/
structure DR (a : String → Addr) (w1 : World) (H : Nat → Nat) (la : Nat) (Y : Lay) (D n1 d : Nat) (dp : Int) (q c : Nat) (t : Nat → Tb) (F : Nat → Option Nat) (fp : List Nat) (W : World) : Prop where
  dm : DM a w1 H la Y D n1 d dp q c t F fp W
  lo : rdy Y n1 q = false → (t 0).len + (t 0).tombs ≤ (c : Int)
section
variable {a : String → Addr} {w1 : World} {H : Nat → Nat} {la : Nat} {Y : Lay} {D n1 d : Nat} {dp : Int} {q c : Nat} {t : Nat → Tb} {F : Nat → Option Nat} {fp : List Nat} {W W' : World} {Bm p v k : Nat}
theorem DM.step' (h : DM a w1 H la Y D n1 d dp q c t F fp W) (hla : la ≤ 1000) (hH : ∀ key, key < la → H key < 18446744073709551616) (hc : c < 7 * n1) (hq : q < Y.n 0 + (Y.N - 1) * n1) (hm : MAt Bm 0 (Mk p v k) W) (hB0 : w1.heap.size ≤ Bm) (hB : Bm ∉ fp) (hp : p ≤ 1000000) (hv : v + 600 ≤ 1000000) (hk : k + 1 ≤ 1000000) :
    Calls Tryz.prog 31 #[.pointer (some ⟨D, 0, none⟩), .pointer (some ⟨Bm, 0, none⟩)] W fun e w' => e = .returned (.bool true) ∧ ∃ v' t' fp', v' ≤ v + 600 ∧ MAt Bm 0 (Mk p v' (k + 1)) w' ∧ Past (Bm :: fp) W w' ∧ (∀ b ∈ fp', b ∈ fp ∨ W.heap.size ≤ b) ∧ DM a w1 H la Y D n1 d dp (q + 1) c t' F fp' w' ∧ (rdy Y n1 q = false → t' = t) := by
  have hN := h.da.N
  obtain ⟨M, hs⟩ := h.du
  have key : sG (rdy Y n1 q) Y.N d (q - (Y.N - 1) * n1) t = true ∧ (∃ M', Du H la Y.N d F (sT (rdy Y n1 q) Y.N d (q - (Y.N - 1) * n1) t) M' c) ∧ (rdy Y n1 (q + 1) = false → ∀ j, 1 ≤ j → sT (rdy Y n1 q) Y.N d (q - (Y.N - 1) * n1) t j = Tb.new n1) := by
    cases hr : rdy Y n1 q with
    | false =>
      refine ⟨rfl, ⟨M, hs⟩, fun _ => ?_⟩
      exact h.tn hr
    | true =>
      have hnx : q - (Y.N - 1) * n1 < (t 0).n := by
        have := h.da.re.tn 0 (cut_pos hN _)
        have e : (cut Y (rdy Y n1 q)).n 0 = Y.n 0 := rfl
        rw [this, e]
        have : (Y.N - 1) * n1 ≤ q := of_decide_eq_true hr
        omega
      obtain ⟨g, hM⟩ := hs.step hN hla hH (fun i h1 hi => by rw [h.rn hr h1 hi]; omega) hnx
      refine ⟨g, hM, fun e => ?_⟩
      have h1 : (Y.N - 1) * n1 ≤ q := of_decide_eq_true hr
      have h2 : ¬ (Y.N - 1) * n1 ≤ q + 1 := of_decide_eq_false e
      omega
  have key3 : rdy Y n1 (q + 1) = true → Off (sT (rdy Y n1 q) Y.N d (q - (Y.N - 1) * n1) t 0) (q + 1 - (Y.N - 1) * n1) := fun e => by
    cases hr : rdy Y n1 q with
    | false =>
      have h1 : (Y.N - 1) * n1 ≤ q + 1 := of_decide_eq_true e
      have h2 : ¬ (Y.N - 1) * n1 ≤ q := of_decide_eq_false hr
      rw [show q + 1 - (Y.N - 1) * n1 = 0 by omega]
      exact fun g hg => absurd hg (Nat.not_lt_zero g)
    | true =>
      have h1 : (Y.N - 1) * n1 ≤ q := of_decide_eq_true hr
      rw [show q + 1 - (Y.N - 1) * n1 = q - (Y.N - 1) * n1 + 1 by omega]
      rw [sT_yes]
      exact Off.next (h.off hr)
  have hl : sK (rdy Y n1 q) Y.N d (q - (Y.N - 1) * n1) t ≤ 512 := by
    unfold sK
    split
    · have h1 := lkc_most Y.N d hN (lst t (q - (Y.N - 1) * n1)) t (fun i hi => h.n64 hi)
      have h2 := lst_length t (q - (Y.N - 1) * n1)
      omega
    · omega
  refine (h.da.step_on hq hm (Mk_ok (by omega) (by omega) (by omega)) (Mk_E _ _ _) hB0 hB).mono fun e w' r => ?_
  rcases r with ⟨_, he, fp', hD, hm', hp', hf⟩ | ⟨hg, _⟩
  · rw [Mk_unit (by omega), Mk_visit (by omega), Mk_see _ (by omega)] at hm'
    exact ⟨he, _, _, fp', by omega, hm', hp', hf, ⟨hD, key.2.1, key.2.2, key3⟩, fun e => by rw [e, sT_no]⟩
  · rw [key.1] at hg; cases hg
theorem DR.aside' {l : List Nat} (h : DR a w1 H la Y D n1 d dp q c t F fp W) (hp : Past l W W') (hl : ∀ b ∈ l, b ∉ fp) (hb : Below w1.heap.size w1 W') : DR a w1 H la Y D n1 d dp q c t F fp W' := by
  have hre := h.dm.da.re
  have ht : ∀ b ∈ (cut Y (rdy Y n1 q)).tall, b ∉ l := fun b hb e => hl b e (h.dm.da.tin b (cut_tall h.dm.da.N hb))
  have hr : Real a w1 (cut Y (rdy Y n1 q)) t W' := ⟨fun i hi => (hre.at' i hi).past hp (ht _ (Lay.tin hi (by simp))) (ht _ (Lay.tin hi (by simp))), hre.ok, hre.tn, hre.sep, hre.new, hb, hre.base⟩
  exact ⟨⟨h.dm.da.past hp (fun b hb => .inl (hl b hb)) hr fun _ _ _ => rfl, h.dm.du, h.dm.tn, h.dm.off⟩, h.lo⟩
theorem DR.read (h : DR a w1 H la Y D n1 d dp q c t F fp W) (hb : Below W.heap.size W W') : DR a w1 H la Y D n1 d dp q c t F fp W' := ⟨h.dm.read hb, h.lo⟩
theorem DR.aside {l : List Nat} (h : DR a w1 H la Y D n1 d dp q c t F fp W) (hp : Past l W W') (hl : ∀ b ∈ l, w1.heap.size ≤ b ∧ b ∉ fp) : DR a w1 H la Y D n1 d dp q c t F fp W' := ⟨h.dm.aside hp hl, h.lo⟩
theorem DR.more (h : DR a w1 H la Y D n1 d dp q c t F fp W) : DR a w1 H la Y D n1 d dp q (c + 1) t F fp W := ⟨h.dm.mono (Nat.le_succ _), fun e => by have := h.lo e; omega⟩
theorem DR.put (h : DR a w1 H la Y D n1 d dp q c t F fp W) (hla : la ≤ 1000) (hH : ∀ key, key < la → H key < 18446744073709551616) (hc : c < 7 * n1) (hc0 : c < 7 * Y.n 0) (hm : MAt Bm 0 (Mk p v k) W) (hB0 : w1.heap.size ≤ Bm) (hB : Bm ∉ fp) {key val : Nat} (hk : key < la) (hv : val < 18446744073709551616) (hp : p + 200 ≤ 1000000) :
    Calls Tryz.prog 12 #[.pointer (some ⟨D, 0, none⟩), .agg #[.pointer (some ⟨Bm, 0, none⟩)], group.entV key val (H key), .bool true] W fun e w' => ∃ p' t', p' ≤ p + 128 ∧ MAt Bm 0 (Mk p' v k) w' ∧ Past (Bm :: fp) W w' ∧ e = .returned (.tuple #[.bool (!(F key).isSome), .nilIface]) ∧ DR a w1 H la Y D n1 d dp q (c + 1) t' (set F key (some val)) fp w' := by
  have hN := h.dm.da.N
  obtain ⟨M, hs⟩ := h.dm.du
  have hK := fndK_le (key := key) (hs := H key) (t := t) Y.N d hN (fun i hi => h.dm.n64 hi) (rdy Y n1 q)
  have hr : rdy Y n1 q = true → ∀ i, 1 ≤ i → i < Y.N → (c : Int) < 7 * ((t i).n : Int) := fun e i h1 hi => by rw [h.dm.rn e h1 hi]; omega
  have h0 : rdy Y n1 q = false → 1 ≤ (t 0).left := fun e => by
    have h1 := h.lo e
    have hre := h.dm.da.re.tn 0 (cut_pos hN _)
    have e2 : (cut Y (rdy Y n1 q)).n 0 = Y.n 0 := rfl
    unfold Tb.left
    rw [hre, e2]; omega
  have hd : ∀ b ∈ (Ln.pr Bm 0).d, w1.heap.size ≤ b ∧ b ∉ fp := fun b hb => by
    obtain rfl : b = Bm := by simpa [Ln.d] using hb
    exact ⟨hB0, hB⟩
  refine (h.dm.da.put (L := .pr Bm 0) hm hd key val (H key) (by omega) hv (hH _ hk) true).mono fun e w' ⟨he, hD, hst⟩ => ?_
  have hat := hst.at'
  rw [Mk_pr Bm 0 _ (by omega)] at hat
  obtain ⟨e1, e2, hM, hT⟩ := hs.roomy hN h.dm.tn hla hH hr h0 hk hv
  rw [e1, e2] at he
  refine ⟨_, _, by omega, hat, hst.past.mono fun b hb => ?_, he, ⟨hD, hM, hT, fun e => by have := h.dm.off e; rw [e]; exact off_dT this⟩, fun e => ?_⟩
  · rcases List.mem_append.1 hb with hb | hb
    · exact List.mem_cons_of_mem _ (h.dm.sub b hb)
    · obtain rfl : b = Bm := by simpa [Ln.d] using hb
      exact List.mem_cons_self
  · have h1 := h.lo e
    have h2 := dT_old (t := t) key (H key) val (js (rdy Y n1 q) Y.N d (H key)) true
    omega
theorem DR.delete (h : DR a w1 H la Y D n1 d dp q c t F fp W) (hla : la ≤ 1000) (hH : ∀ key, key < la → H key < 18446744073709551616) (hm : MAt Bm 0 (Mk p v k) W) (hB0 : w1.heap.size ≤ Bm) (hB : Bm ∉ fp) {key : Nat} (hk : key < la) (hp : p + 200 ≤ 1000000) :
    Calls Tryz.prog 16 #[.pointer (some ⟨D, 0, none⟩), .agg #[.pointer (some ⟨Bm, 0, none⟩)], .int .u64 (key : Nat), .int .u64 (H key : Nat)] W fun e w' => ∃ p' t' x y, p' ≤ p + 128 ∧ MAt Bm 0 (Mk p' v k) w' ∧ Past (Bm :: fp) W w' ∧ e = .returned (.tuple #[x, y]) ∧ DR a w1 H la Y D n1 d dp q c t' (set F key none) fp w' := by
  have hN := h.dm.da.N
  obtain ⟨M, hs⟩ := h.dm.du
  have hK := fndK_le (key := key) (hs := H key) (t := t) Y.N d hN (fun i hi => h.dm.n64 hi) (rdy Y n1 q)
  have hd : ∀ b ∈ (Ln.pr Bm 0).d, w1.heap.size ≤ b ∧ b ∉ fp := fun b hb => by
    obtain rfl : b = Bm := by simpa [Ln.d] using hb
    exact ⟨hB0, hB⟩
  refine (h.dm.da.delete (L := .pr Bm 0) hm hd key (H key) (by omega) (hH _ hk)).mono fun e w' ⟨he, hD, hst⟩ => ?_
  have hat := hst.at'
  rw [Mk_pr Bm 0 _ (by omega)] at hat
  obtain ⟨hM, hT⟩ := hs.ddel hN h.dm.tn hk
  refine ⟨_, _, _, _, by omega, hat, hst.past.mono fun b hb => ?_, he, ⟨hD, hM, hT, fun e => off_eT (h.dm.off e)⟩, fun e => ?_⟩
  · rcases List.mem_append.1 hb with hb | hb
    · exact List.mem_cons_of_mem _ (h.dm.sub b hb)
    · obtain rfl : b = Bm := by simpa [Ln.d] using hb
      exact List.mem_cons_self
  · have h1 := h.lo e
    have h2 := eT_old (t := t) key (H key) (js (rdy Y n1 q) Y.N d (H key))
    omega
theorem DR.find (h : DR a w1 H la Y D n1 d dp q c t F fp W) (hla : la ≤ 1000) (hH : ∀ key, key < la → H key < 18446744073709551616) {key : Nat} (hk : key < la) :
    Calls Tryz.prog 18 #[.pointer (some ⟨D, 0, none⟩), .agg #[.pointer none], .int .u64 (key : Nat), .int .u64 (H key : Nat)] W fun e w' => e = .returned (.tuple #[group.entV (eOf F H key).key (eOf F H key).val (eOf F H key).hash, .bool (F key).isSome]) ∧ Below W.heap.size W w' := by
  have hN := h.dm.da.N
  obtain ⟨M, hs⟩ := h.dm.du
  obtain ⟨s1, s2⟩ := hs.seekV (rd := rdy Y n1 q) hN h.dm.tn key
  have s3 := hs.ent (rd := rdy Y n1 q) hN h.dm.tn key
  refine (h.dm.da.find (L := .nil) (m := Mt.zero) trivial (fun b hb => by cases hb) key (H key) (by omega) (hH _ hk)).mono fun e w' ⟨he, _, hst⟩ => by
    rw [s1, s3] at he
    exact ⟨he, Past.nil hst.past⟩
theorem DR.step (h : DR a w1 H la Y D n1 d dp q c t F fp W) (hla : la ≤ 1000) (hH : ∀ key, key < la → H key < 18446744073709551616) (hc : c < 7 * n1) (hm : MAt Bm 0 (Mk p v k) W) (hB0 : w1.heap.size ≤ Bm) (hB : Bm ∉ fp) (hp : p ≤ 1000000) (hv : v + 600 ≤ 1000000) (hk : k + 1 ≤ 1000000) :
    Calls Tryz.prog 31 #[.pointer (some ⟨D, 0, none⟩), .pointer (some ⟨Bm, 0, none⟩)] W fun e w' => ∃ v' t' fp' k' q', e = .returned (.bool (decide (q < Y.n 0 + (Y.N - 1) * n1))) ∧ q' = (if q < Y.n 0 + (Y.N - 1) * n1 then q + 1 else q) ∧ k' = (if q < Y.n 0 + (Y.N - 1) * n1 then k + 1 else k) ∧ v' ≤ v + 600 * (k' - k) ∧ MAt Bm 0 (Mk p v' k') w' ∧ Past (Bm :: fp) W w' ∧ (∀ b ∈ fp', b ∈ fp ∨ W.heap.size ≤ b) ∧ DR a w1 H la Y D n1 d dp q' c t' F fp' w' := by
  by_cases hq : q < Y.n 0 + (Y.N - 1) * n1
  · refine (h.dm.step' hla hH hc hq hm hB0 hB hp hv hk).mono fun e w' ⟨he, v', t', fp', h1, h2, h3, h4, h5, h6⟩ => ?_
    refine ⟨v', t', fp', k + 1, q + 1, by rw [decide_eq_true hq]; exact he, (if_pos hq).symm, (if_pos hq).symm, by omega, h2, h3, h4, h5, fun e => ?_⟩
    have hr : rdy Y n1 q = false := by
      have : ¬ (Y.N - 1) * n1 ≤ q + 1 := of_decide_eq_false e
      exact decide_eq_false (by omega)
    rw [h6 hr]
    exact h.lo hr
  · refine (h.dm.stop (by have := h.dm.da.le; omega) (some ⟨Bm, 0, none⟩)).mono fun e w' ⟨he, hb⟩ => ?_
    exact ⟨v, t, fp, k, q, by rw [decide_eq_false hq]; exact he, (if_neg hq).symm, (if_neg hq).symm, by omega, hm.below hb, Past.of hb, fun b hb => .inl hb, h.read hb⟩
end
end Go.Proofs.YteedbnoefnlidaaGreatDoor.dual

/-! ### DualSteps: three duals beside each other, which share a meter. -/
namespace Go.Proofs.YteedbnoefnlidaaGreatDoor.dual
open Go.ChangeShapes Go.WideShapes Go.ChangeAt Go.RowKit Go.Shelf swar under trap meter group probe lens tail call table evac
set_option linter.unusedSimpArgs false
set_option linter.unusedVariables false

/-- while keys are put into an old table -/
structure KC (a : String → Addr) (w1 : World) (H : Nat → Nat) (la T B n0 n1 k : Nat) (t0 : Tb) (F : Nat → Option Nat) (W : World) : Prop where
  re : Real a w1 (lay1 T B n0) (kT t0 n1) W
  rep : RepN H la t0 F
  len : t0.len + t0.tombs ≤ (k : Int)
section
variable {a : String → Addr} {w1 : World} {H : Nat → Nat} {la T B n0 n1 k : Nat} {t0 : Tb} {F : Nat → Option Nat} {W W' : World}
theorem KC.read (h : KC a w1 H la T B n0 n1 k t0 F W) (hb : Below W.heap.size W W') : KC a w1 H la T B n0 n1 k t0 F W' := ⟨h.re.read hb, h.rep, h.len⟩
theorem KC.put (h : KC a w1 H la T B n0 n1 k t0 F W) (hla : la ≤ 1000) (hk7 : k < 7 * n0) {key v : Nat} (hk : key < la) (hH : H key < 18446744073709551616) (hv : v < 18446744073709551616) :
    Calls Tryz.prog 41 #[.pointer (some ⟨T, 0, none⟩), .agg #[.pointer none], group.entV key v (H key)] W fun e w' => ∃ b t', e = .returned (.tuple #[.bool b, .nilIface]) ∧ Past [T, B] W w' ∧ KC a w1 H la T B n0 n1 (k + 1) t' (set F key (some v)) w' := by
  have hkb : key < 18446744073709551616 := by omega
  have hn : t0.n = n0 := h.re.tn 0 Nat.one_pos
  have hl : 1 ≤ t0.left := by
    have := h.len
    unfold Tb.left
    rw [hn]; omega
  obtain ⟨r, e2, e3, e4, e5⟩ := (h.rep.rep.puts (key := key) (v := v) hkb hH hv).1 (.inr hl)
  have hR : Ready a T B t0 .nil Mt.zero W := h.re.rdL (i := 0) (L := .nil) Nat.one_pos trivial (fun b hb => by cases hb)
  refine (put_tab hR key (H key) v hkb hH hv).mono fun e w' ⟨he, hs⟩ => ?_
  have hp : Past [T, B] W w' := by simpa [Ln.d] using hs.ln.past
  have hreal : Real a w1 (lay1 T B n0) (kT (t0.puts key (H key) v) n1) w' := by
    rw [← kT_up t0]
    exact h.re.tlL (i := 0) (L := .nil) Nat.one_pos (fun b hb => by cases hb) hs ((h.re.ok 0 Nat.one_pos).puts hkb hH hv) (puts_n ..)
  rw [e2] at he
  refine ⟨_, _, he, hp, hreal, h.rep.put_yes hk r e4, ?_⟩
  have h1 := h.len
  have h2 := puts_cnt t0 key (H key) v
  omega
end
/-! ### three duals -/
structure One where
  Y : Lay
  D : Nat
  q : Nat
  c : Nat
  t : Nat → Tb
  F : Nat → Option Nat
  fp : List Nat
def upS (S : Nat → One) (i : Nat) (x : One) : Nat → One := fun j => if j = i then x else S j
theorem upS_same (S : Nat → One) (i : Nat) (x : One) : upS S i x i = x := if_pos rfl
theorem upS_ne (S : Nat → One) {i j : Nat} (x : One) (h : j ≠ i) : upS S i x j = S j := if_neg h
/-- how many steps are done of all -/
def stp (S : Nat → One) : Nat := (S 0).q + (S 1).q + (S 2).q
/-- what the array has -/
def pv (m : Nat) (S : Nat → One) (i : Nat) : Value := if i < m then .pointer (some ⟨(S i).D, 0, none⟩) else .pointer none
structure T3 (a : String → Addr) (w1 : World) (H : Nat → Nat) (la n0 n1 nb d : Nat) (dp : Int) (Bm A m P : Nat) (S : Nat → One) (W : World) : Prop where
  one : ∀ i, i < m → DR a w1 H la (S i).Y (S i).D n1 d dp (S i).q (S i).c (S i).t (S i).F (S i).fp W
  dis : ∀ i j, i < m → j < m → i ≠ j → ∀ b ∈ (S i).fp, b ∉ (S j).fp
  ma : ∃ p v, p ≤ P ∧ v ≤ 600 * stp S ∧ MAt Bm 0 (Mk p v (stp S)) W
  nm : ∀ i, i < m → Bm ∉ (S i).fp
  arr : W.heap[A]? = some (.cells #[pv m S 0, pv m S 1, pv m S 2] 95 (0, 0))
  nA : ∀ i, i < m → A ∉ (S i).fp
  mA : A ≠ Bm
  hm : w1.heap.size ≤ Bm
  hA : w1.heap.size ≤ A
  y0 : ∀ i, i < m → (S i).Y.n 0 = n0 ∧ (S i).Y.N = nb + 1
  z : ∀ i, m ≤ i → (S i).q = 0
  bel : Below w1.heap.size w1 W
section
variable {a : String → Addr} {w1 : World} {H : Nat → Nat} {la n0 n1 nb d : Nat} {dp : Int} {Bm A m P : Nat} {S : Nat → One} {W W' : World}
theorem T3.lA (h : T3 a w1 H la n0 n1 nb d dp Bm A m P S W) : A < W.heap.size := (Array.getElem?_eq_some_iff.1 h.arr).1
theorem T3.lm (h : T3 a w1 H la n0 n1 nb d dp Bm A m P S W) : Bm < W.heap.size := by obtain ⟨p, v, _, _, h⟩ := h.ma; exact h.lt
theorem T3.read (h : T3 a w1 H la n0 n1 nb d dp Bm A m P S W) (hb : Below W.heap.size W W') : T3 a w1 H la n0 n1 nb d dp Bm A m P S W' := by
  obtain ⟨p, v, h1, h2, h3⟩ := h.ma
  exact ⟨fun i hi => (h.one i hi).read hb, h.dis, ⟨p, v, h1, h2, h3.below hb⟩, h.nm, (hb.block A h.lA).trans h.arr, h.nA, h.mA, h.hm, h.hA, h.y0, h.z, under.below_step h.bel hb⟩
theorem T3.aside {l : List Nat} (h : T3 a w1 H la n0 n1 nb d dp Bm A m P S W) (hp : Past l W W') (hl : ∀ b ∈ l, w1.heap.size ≤ b ∧ (∀ i, i < m → b ∉ (S i).fp) ∧ b ≠ Bm ∧ b ≠ A) : T3 a w1 H la n0 n1 nb d dp Bm A m P S W' := by
  obtain ⟨p, v, h1, h2, h3⟩ := h.ma
  exact ⟨fun i hi => (h.one i hi).aside hp fun b hb => ⟨(hl b hb).1, (hl b hb).2.1 i hi⟩, h.dis, ⟨p, v, h1, h2, h3.past hp fun e => (hl _ e).2.2.1 rfl⟩, h.nm, (hp.block A h.lA fun e => (hl _ e).2.2.2 rfl).trans h.arr, h.nA, h.mA, h.hm, h.hA, h.y0, h.z, h.bel.trans (hp.below h.bel.size fun b hb => (hl b hb).1)⟩
theorem T3.fresh (h : T3 a w1 H la n0 n1 nb d dp Bm A m P S W) {b : Nat} (hb : W.heap.size ≤ b) : w1.heap.size ≤ b ∧ (∀ i, i < m → b ∉ (S i).fp) ∧ b ≠ Bm ∧ b ≠ A := by
  have h1 := h.bel.size
  have h2 := h.lm
  have h3 := h.lA
  exact ⟨by omega, fun i hi e => by have := (h.one i hi).dm.da.flt b e; omega, by omega, by omega⟩
theorem T3.cell (h : T3 a w1 H la n0 n1 nb d dp Bm A m P S W) : W.cell? ⟨A, 0, none⟩ = some (pv m S 0) ∧ W.cell? ⟨A, 1, none⟩ = some (pv m S 1) ∧ W.cell? ⟨A, 2, none⟩ = some (pv m S 2) :=
  ⟨by rw [cell_of_row _ _ _ _ _ _ h.arr]; rfl, by rw [cell_of_row _ _ _ _ _ _ h.arr]; rfl, by rw [cell_of_row _ _ _ _ _ _ h.arr]; rfl⟩
theorem T3.fz (h : T3 a w1 H la n0 n1 nb d dp Bm A m P S W) (i : Nat) : W.frozen? ⟨A, i, none⟩ = false := frozen_of_row _ _ i _ _ h.arr
/-- how many steps there are -/
theorem T3.qs (h : T3 a w1 H la n0 n1 nb d dp Bm A m P S W) (i : Nat) : (S i).q ≤ 192 := by
  rcases Nat.lt_or_ge i m with hi | hi
  · have h1 := (h.one i hi).dm.da.le
    have h2 := (h.one i hi).dm.da.small
    omega
  · have := h.z i hi; omega
theorem T3.st (h : T3 a w1 H la n0 n1 nb d dp Bm A m P S W) : stp S ≤ 576 := by
  have h0 := h.qs 0
  have h1 := h.qs 1
  have h2 := h.qs 2
  unfold stp; omega
theorem stp_up (S : Nat → One) {i : Nat} (hi : i < 3) (x : One) : stp (upS S i x) + (S i).q = stp S + x.q := by
  unfold stp
  obtain rfl | rfl | rfl : i = 0 ∨ i = 1 ∨ i = 2 := by omega
  · rw [upS_same, upS_ne (h := by decide), upS_ne (h := by decide)]; omega
  · rw [upS_same, upS_ne (h := by decide), upS_ne (h := by decide)]; omega
  · rw [upS_same, upS_ne (h := by decide), upS_ne (h := by decide)]; omega
/-- one of them goes on -/
theorem T3.upd {P' : Nat} (h : T3 a w1 H la n0 n1 nb d dp Bm A m P S W) {i : Nat} (hi : i < m) (x : One) (hD : x.D = (S i).D) (hy : x.Y.n 0 = n0 ∧ x.Y.N = nb + 1) (hx : DR a w1 H la x.Y x.D n1 d dp x.q x.c x.t x.F x.fp W') (hp : Past (Bm :: (S i).fp) W W') (hf : ∀ b ∈ x.fp, b ∈ (S i).fp ∨ W.heap.size ≤ b) (hma : ∃ p v, p ≤ P' ∧ v ≤ 600 * stp (upS S i x) ∧ MAt Bm 0 (Mk p v (stp (upS S i x))) W') : T3 a w1 H la n0 n1 nb d dp Bm A m P' (upS S i x) W' := by
  have flt := fun j (hj : j < m) => (h.one j hj).dm.da.flt
  have epv : ∀ j, pv m (upS S i x) j = pv m S j := fun j => by
    unfold pv
    by_cases e : j = i
    · subst e; rw [upS_same, hD]
    · rw [upS_ne _ _ e]
  have hbx := hx.dm.da.re.bel
  refine ⟨fun j hj => ?_, fun j1 j2 h1 h2 hne b hb => ?_, hma, fun j hj => ?_, ?_, fun j hj => ?_, h.mA, h.hm, h.hA, fun j hj => ?_, fun j hj => ?_, hbx⟩
  · by_cases e : j = i
    · subst e; rw [upS_same]; exact hx
    · rw [upS_ne _ _ e]
      refine (h.one j hj).aside' hp (fun b hb => ?_) hbx
      rcases List.mem_cons.1 hb with rfl | hb
      · exact h.nm j hj
      · exact h.dis i j hi hj (Ne.symm e) b hb
  · by_cases e1 : j1 = i
    · subst e1
      rw [upS_same] at hb
      rw [upS_ne _ _ (Ne.symm hne)]
      rcases hf b hb with hb | hb
      · exact h.dis j1 j2 hi h2 hne b hb
      · exact fun e => by have := flt j2 h2 b e; omega
    · rw [upS_ne _ _ e1] at hb
      by_cases e2 : j2 = i
      · subst e2
        rw [upS_same]
        intro e
        rcases hf b e with e | e
        · exact h.dis j1 j2 h1 hi hne b hb e
        · have := flt j1 h1 b hb; omega
      · rw [upS_ne _ _ e2]
        exact h.dis j1 j2 h1 h2 hne b hb
  · by_cases e : j = i
    · subst e; rw [upS_same]
      intro e
      rcases hf _ e with e | e
      · exact h.nm j hj e
      · have := h.lm; omega
    · rw [upS_ne _ _ e]; exact h.nm j hj
  · rw [epv, epv, epv]
    exact (hp.block A h.lA (fun e => by rcases List.mem_cons.1 e with e | e; exact h.mA e; exact h.nA i hi e)).trans h.arr
  · by_cases e : j = i
    · subst e; rw [upS_same]
      intro e
      rcases hf _ e with e | e
      · exact h.nA j hj e
      · have := h.lA; omega
    · rw [upS_ne _ _ e]; exact h.nA j hj
  · by_cases e : j = i
    · subst e; rw [upS_same]; exact hy
    · rw [upS_ne _ _ e]; exact h.y0 j hj
  · rw [upS_ne _ _ (by omega)]; exact h.z j hj
/-- one more -/
theorem T3.add (h : T3 a w1 H la n0 n1 nb d dp Bm A m P S W) (hm3 : m < 3) (x : One) (hx : DR a w1 H la x.Y x.D n1 d dp x.q x.c x.t x.F x.fp W) (hq : x.q = 0) (hy : x.Y.n 0 = n0 ∧ x.Y.N = nb + 1) (hf : ∀ b ∈ x.fp, (∀ i, i < m → b ∉ (S i).fp) ∧ b ≠ Bm ∧ b ≠ A) : T3 a w1 H la n0 n1 nb d dp Bm A (m + 1) P (upS S m x) (W.setCell ⟨A, m, none⟩ (.pointer (some ⟨x.D, 0, none⟩))) := by
  obtain ⟨p, v, h1, h2, h3⟩ := h.ma
  have es : stp (upS S m x) = stp S := by
    have := stp_up S hm3 x
    have := h.z m (Nat.le_refl _)
    omega
  have hp : Past [A] W (W.setCell ⟨A, m, none⟩ (.pointer (some ⟨x.D, 0, none⟩))) := one_set
  have hA1 : ∀ b ∈ [A], w1.heap.size ≤ b := fun b hb => by
    obtain rfl : b = A := by simpa using hb
    exact h.hA
  have nxA : A ∉ x.fp := fun e => (hf A e).2.2 rfl
  refine ⟨fun j hj => ?_, fun j1 j2 k1 k2 hne b hb => ?_, ⟨p, v, h1, by rw [es]; exact h2, by rw [es]; exact h3.past hp (by simp [Ne.symm h.mA])⟩, fun j hj => ?_, ?_, fun j hj => ?_, h.mA, h.hm, h.hA, fun j hj => ?_, fun j hj => ?_, h.bel.trans (hp.below h.bel.size hA1)⟩
  · by_cases e : j = m
    · subst e; rw [upS_same]
      refine hx.aside hp fun b hb => ⟨hA1 b hb, ?_⟩
      obtain rfl : b = A := by simpa using hb
      exact nxA
    · rw [upS_ne _ _ e]
      refine (h.one j (by omega)).aside hp fun b hb => ⟨hA1 b hb, ?_⟩
      obtain rfl : b = A := by simpa using hb
      exact h.nA j (by omega)
  · by_cases e1 : j1 = m
    · subst e1
      rw [upS_same] at hb
      rw [upS_ne _ _ (Ne.symm hne)]
      exact (hf b hb).1 j2 (by omega)
    · rw [upS_ne _ _ e1] at hb
      by_cases e2 : j2 = m
      · subst e2
        rw [upS_same]
        exact fun e => (hf b e).1 j1 (by omega) hb
      · rw [upS_ne _ _ e2]
        exact h.dis j1 j2 (by omega) (by omega) hne b hb
  · by_cases e : j = m
    · subst e; rw [upS_same]; exact fun e => (hf _ e).2.1 rfl
    · rw [upS_ne _ _ e]; exact h.nm j (by omega)
  · refine (heap_setCell_same W A m _ _ _ h.arr).trans ?_
    have e1 : ∀ j, j < m → pv (m + 1) (upS S m x) j = pv m S j := fun j hj => by
      unfold pv; rw [if_pos (by omega), if_pos hj, upS_ne _ _ (by omega)]
    have e2 : pv (m + 1) (upS S m x) m = .pointer (some ⟨x.D, 0, none⟩) := by
      unfold pv; rw [if_pos (by omega), upS_same]
    have e3 : ∀ j, m < j → pv (m + 1) (upS S m x) j = pv m S j := fun j hj => by
      unfold pv; rw [if_neg (by omega), if_neg (by omega)]
    obtain rfl | rfl | rfl : m = 0 ∨ m = 1 ∨ m = 2 := by omega
    · rw [e2, e3 1 (by omega), e3 2 (by omega)]; rfl
    · rw [e2, e1 0 (by omega), e3 2 (by omega)]; rfl
    · rw [e2, e1 0 (by omega), e1 1 (by omega)]; rfl
  · by_cases e : j = m
    · subst e; rw [upS_same]; exact nxA
    · rw [upS_ne _ _ e]; exact h.nA j (by omega)
  · by_cases e : j = m
    · subst e; rw [upS_same]; exact hy
    · rw [upS_ne _ _ e]; exact h.y0 j (by omega)
  · rw [upS_ne _ _ (by omega)]; exact h.z j (by omega)
end
end Go.Proofs.YteedbnoefnlidaaGreatDoor.dual

/-! ### DualSteps: what each of the three duals answers. -/
namespace Go.Proofs.YteedbnoefnlidaaGreatDoor.dual
open Go.ChangeShapes Go.WideShapes Go.ChangeAt Go.RowKit Go.Shelf swar under trap meter group probe lens tail call table evac
set_option linter.unusedSimpArgs false
set_option linter.unusedVariables false

/-! ### how many keys there are -/
def one1 (o : Option Nat) : Nat := if o.isSome = true then 1 else 0
theorem cnt_add2 {F A B : Nat → Option Nat} (h : ∀ key, one1 (F key) = one1 (A key) + one1 (B key)) : ∀ la, cntM la F = cntM la A + cntM la B
  | 0 => rfl
  | k + 1 => by
    have ih := cnt_add2 h k
    have hk := h k
    unfold one1 at hk
    rw [cntM_succ, cntM_succ, cntM_succ]
    omega
theorem cnt_add3 {F A B C : Nat → Option Nat} (h : ∀ key, one1 (F key) = one1 (A key) + one1 (B key) + one1 (C key)) : ∀ la, cntM la F = cntM la A + cntM la B + cntM la C
  | 0 => rfl
  | k + 1 => by
    have ih := cnt_add3 h k
    have hk := h k
    unfold one1 at hk
    rw [cntM_succ, cntM_succ, cntM_succ, cntM_succ]
    omega
theorem du_cnt {H : Nat → Nat} {la N d : Nat} {F : Nat → Option Nat} {t : Nat → Tb} {M : Nat → Nat → Option Nat} {c : Nat} (s : Du H la N d F t M c) (hN : N = 2 ∨ N = 3) : lenS t N = (cntM la F : Nat) := by
  have key1 : ∀ key, tgt N d (H key) = 1 ∨ tgt N d (H key) = 2 ∧ N = 3 := fun key => by
    have h1 := tgt_lt hN d (H key)
    have h2 := tgt_pos N d (H key)
    omega
  have nn : ∀ i key, 1 ≤ i → i < N → i ≠ tgt N d (H key) → M i key = none := fun i key h1 h2 h3 => by
    cases e : M i key with
    | none => rfl
    | some v => exact absurd (s.tg i h1 h2 key (by rw [e]; rfl)).symm h3
  have o1 : ∀ key, one1 (F key) = one1 (M 0 key) + one1 (M (tgt N d (H key)) key) := fun key => by
    have hu := s.un key
    have ho := s.one key
    cases e0 : M 0 key with
    | none => rw [hu, e0]; cases M (tgt N d (H key)) key <;> rfl
    | some v =>
      rw [hu, ho (by rw [e0]; rfl), e0]; rfl
  rcases hN with rfl | rfl
  · have e : ∀ key, one1 (F key) = one1 (M 0 key) + one1 (M 1 key) := fun key => by
      rcases key1 key with h | ⟨_, h⟩
      · rw [o1 key, h]
      · cases h
    show 0 + (t 0).len + (t 1).len = _
    rw [(s.rep 0 (by omega)).len, (s.rep 1 (by omega)).len, cnt_add2 e la]
    omega
  · have e : ∀ key, one1 (F key) = one1 (M 0 key) + one1 (M 1 key) + one1 (M 2 key) := fun key => by
      rcases key1 key with h | ⟨h, _⟩
      · rw [o1 key, h, nn 2 key (by omega) (by omega) (by omega)]; rfl
      · rw [o1 key, h, nn 1 key (by omega) (by omega) (by omega)]; rfl
    show 0 + (t 0).len + (t 1).len + (t 2).len = _
    rw [(s.rep 0 (by omega)).len, (s.rep 1 (by omega)).len, (s.rep 2 (by omega)).len, cnt_add3 e la]
    omega
section
variable {a : String → Addr} {w1 : World} {H : Nat → Nat} {la n0 n1 nb d : Nat} {dp : Int} {Bm A m P : Nat} {S : Nat → One} {W W' : World} {E : Nat}
theorem stp_same (S : Nat → One) {i : Nat} (hi : i < 3) (x : One) (hx : x.q = (S i).q) : stp (upS S i x) = stp S := by
  have := stp_up S hi x
  omega
/-- a block apart from all of them -/
def Oo (Bm m : Nat) (S : Nat → One) (E : Nat) : Prop := E ≠ Bm ∧ ∀ i, i < m → E ∉ (S i).fp
theorem Oo.not (h : Oo Bm m S E) {i : Nat} (hi : i < m) : E ∉ Bm :: (S i).fp := fun e => by
  rcases List.mem_cons.1 e with e | e
  · exact h.1 e
  · exact h.2 i hi e
theorem Oo.upd (h : Oo Bm m S E) {i : Nat} (hi : i < m) {x : One} (hE : E < W.heap.size) (hf : ∀ b ∈ x.fp, b ∈ (S i).fp ∨ W.heap.size ≤ b) : Oo Bm m (upS S i x) E := ⟨h.1, fun j hj e => by
  by_cases e1 : j = i
  · subst e1
    rw [upS_same] at e
    rcases hf E e with e | e
    · exact h.2 j hj e
    · omega
  · rw [upS_ne _ _ e1] at e
    exact h.2 j hj e⟩
theorem T3.oo (h : T3 a w1 H la n0 n1 nb d dp Bm A m P S W) (hE : W.heap.size ≤ E) : Oo Bm m S E := by
  obtain ⟨_, h2, h3, _⟩ := h.fresh hE
  exact ⟨h3, h2⟩
theorem T3.ge (h : T3 a w1 H la n0 n1 nb d dp Bm A m P S W) {i : Nat} (hi : i < m) : (S i).Y.n 0 + ((S i).Y.N - 1) * n1 = n0 + nb * n1 := by
  obtain ⟨h1, h2⟩ := h.y0 i hi
  rw [h1, h2]; rfl
theorem T3.put (h : T3 a w1 H la n0 n1 nb d dp Bm A m P S W) (hla : la ≤ 1000) (hH : ∀ key, key < la → H key < 18446744073709551616) {i : Nat} (hi : i < m) (hi3 : i < 3) (hc : (S i).c < 7 * n1) (hc0 : (S i).c < 7 * n0) {key val : Nat} (hk : key < la) (hv : val < 18446744073709551616) (hP : P + 200 ≤ 1000000) :
    Calls Tryz.prog 12 #[.pointer (some ⟨(S i).D, 0, none⟩), .agg #[.pointer (some ⟨Bm, 0, none⟩)], group.entV key val (H key), .bool true] W fun e w' => ∃ x b, e = .returned (.tuple #[.bool b, .nilIface]) ∧ x.F = set (S i).F key (some val) ∧ x.c = (S i).c + 1 ∧ x.D = (S i).D ∧ x.q = (S i).q ∧ T3 a w1 H la n0 n1 nb d dp Bm A m (P + 128) (upS S i x) w' ∧ Past (Bm :: (S i).fp) W w' ∧ (∀ b ∈ x.fp, b ∈ (S i).fp ∨ W.heap.size ≤ b) := by
  obtain ⟨p, v, h1, h2, h3⟩ := h.ma
  refine ((h.one i hi).put hla hH hc (by rw [(h.y0 i hi).1]; exact hc0) h3 h.hm (h.nm i hi) hk hv (by omega)).mono fun e w' ⟨p', t', k1, k2, k3, k4, k5⟩ => ?_
  have es : stp (upS S i { S i with t := t', F := set (S i).F key (some val), c := (S i).c + 1 }) = stp S := stp_same S hi3 _ rfl
  refine ⟨{ S i with t := t', F := set (S i).F key (some val), c := (S i).c + 1 }, _, k4, rfl, rfl, rfl, rfl, ?_, k3, fun b hb => .inl hb⟩
  exact h.upd hi _ rfl (h.y0 i hi) k5 k3 (fun b hb => .inl hb) ⟨p', v, by omega, by rw [es]; exact h2, by rw [es]; exact k2⟩
theorem T3.delete (h : T3 a w1 H la n0 n1 nb d dp Bm A m P S W) (hla : la ≤ 1000) (hH : ∀ key, key < la → H key < 18446744073709551616) {i : Nat} (hi : i < m) (hi3 : i < 3) {key : Nat} (hk : key < la) (hP : P + 200 ≤ 1000000) :
    Calls Tryz.prog 16 #[.pointer (some ⟨(S i).D, 0, none⟩), .agg #[.pointer (some ⟨Bm, 0, none⟩)], .int .u64 (key : Nat), .int .u64 (H key : Nat)] W fun e w' => ∃ x y z, e = .returned (.tuple #[y, z]) ∧ x.F = set (S i).F key none ∧ x.c = (S i).c ∧ x.D = (S i).D ∧ x.q = (S i).q ∧ T3 a w1 H la n0 n1 nb d dp Bm A m (P + 128) (upS S i x) w' ∧ Past (Bm :: (S i).fp) W w' ∧ (∀ b ∈ x.fp, b ∈ (S i).fp ∨ W.heap.size ≤ b) := by
  obtain ⟨p, v, h1, h2, h3⟩ := h.ma
  refine ((h.one i hi).delete hla hH h3 h.hm (h.nm i hi) hk (by omega)).mono fun e w' ⟨p', t', y, z, k1, k2, k3, k4, k5⟩ => ?_
  have es : stp (upS S i { S i with t := t', F := set (S i).F key none }) = stp S := stp_same S hi3 _ rfl
  refine ⟨{ S i with t := t', F := set (S i).F key none }, _, _, k4, rfl, rfl, rfl, rfl, ?_, k3, fun b hb => .inl hb⟩
  exact h.upd hi _ rfl (h.y0 i hi) k5 k3 (fun b hb => .inl hb) ⟨p', v, by omega, by rw [es]; exact h2, by rw [es]; exact k2⟩
theorem T3.step (h : T3 a w1 H la n0 n1 nb d dp Bm A m P S W) (hla : la ≤ 1000) (hH : ∀ key, key < la → H key < 18446744073709551616) {i : Nat} (hi : i < m) (hi3 : i < 3) (hc : (S i).c < 7 * n1) (hP : P ≤ 1000000) :
    Calls Tryz.prog 31 #[.pointer (some ⟨(S i).D, 0, none⟩), .pointer (some ⟨Bm, 0, none⟩)] W fun e w' => ∃ x, e = .returned (.bool (decide ((S i).q < n0 + nb * n1))) ∧ x.F = (S i).F ∧ x.c = (S i).c ∧ x.D = (S i).D ∧ x.q = (if (S i).q < n0 + nb * n1 then (S i).q + 1 else (S i).q) ∧ T3 a w1 H la n0 n1 nb d dp Bm A m P (upS S i x) w' ∧ Past (Bm :: (S i).fp) W w' ∧ (∀ b ∈ x.fp, b ∈ (S i).fp ∨ W.heap.size ≤ b) := by
  obtain ⟨p, v, h1, h2, h3⟩ := h.ma
  have hst := h.st
  refine ((h.one i hi).step hla hH hc h3 h.hm (h.nm i hi) (by omega) (by omega) (by omega)).mono fun e w' ⟨v', t', fp', k', q', k1, k2, k3, k4, k5, k6, k7, k8⟩ => ?_
  rw [h.ge hi] at k1 k2 k3
  have es : stp (upS S i { S i with t := t', fp := fp', q := q' }) + (S i).q = stp S + q' := stp_up S hi3 _
  have es : stp (upS S i { S i with t := t', fp := fp', q := q' }) = k' := by
    by_cases e : (S i).q < n0 + nb * n1
    · rw [if_pos e] at k2 k3; omega
    · rw [if_neg e] at k2 k3; omega
  refine ⟨{ S i with t := t', fp := fp', q := q' }, k1, rfl, rfl, rfl, k2, ?_, k6, k7⟩
  refine h.upd hi _ rfl (h.y0 i hi) k8 k6 k7 ⟨p, v', h1, ?_, by rw [es]; exact k5⟩
  rw [es]
  by_cases e : (S i).q < n0 + nb * n1
  · rw [if_pos e] at k3; subst k3; omega
  · rw [if_neg e] at k3; subst k3; omega
theorem T3.find (h : T3 a w1 H la n0 n1 nb d dp Bm A m P S W) (hla : la ≤ 1000) (hH : ∀ key, key < la → H key < 18446744073709551616) {i : Nat} (hi : i < m) {key : Nat} (hk : key < la) :
    Calls Tryz.prog 18 #[.pointer (some ⟨(S i).D, 0, none⟩), .agg #[.pointer none], .int .u64 (key : Nat), .int .u64 (H key : Nat)] W fun e w' => e = .returned (.tuple #[group.entV (eOf (S i).F H key).key (eOf (S i).F H key).val (eOf (S i).F H key).hash, .bool ((S i).F key).isSome]) ∧ Below W.heap.size W w' := (h.one i hi).find hla hH hk
theorem T3.left (h : T3 a w1 H la n0 n1 nb d dp Bm A m P S W) {i : Nat} (hi : i < m) : Calls Tryz.prog 36 #[.pointer (some ⟨(S i).D, 0, none⟩)] W fun e w' => e = .returned (.int .i64 ((n0 + nb * n1 - (S i).q : Nat) : Int)) ∧ Below W.heap.size W w' := by
  have := (h.one i hi).dm.left
  rw [h.ge hi] at this
  exact this
theorem T3.len (h : T3 a w1 H la n0 n1 nb d dp Bm A m P S W) {i : Nat} (hi : i < m) (hq : (S i).q = n0 + nb * n1) : Calls Tryz.prog 38 #[.pointer (some ⟨(S i).D, 0, none⟩)] W fun e w' => e = .returned (.int .i64 ((cntM la (S i).F : Nat) : Int)) ∧ Below W.heap.size W w' := by
  have hd := (h.one i hi).dm
  obtain ⟨M, hs⟩ := hd.du
  have hr : rdy (S i).Y n1 (S i).q = true := decide_eq_true (by have := h.ge hi; omega)
  refine hd.da.len.mono fun e w' ⟨he, hw⟩ => ?_
  rw [hr, show (cut (S i).Y true).N = (S i).Y.N from rfl, du_cnt hs hd.da.N] at he
  subst hw
  exact ⟨he, Below.refl _ _⟩
end
end Go.Proofs.YteedbnoefnlidaaGreatDoor.dual

/-! ### DualSteps: where more is in it than is asked. -/
namespace Go.Proofs.YteedbnoefnlidaaGreatDoor.dual
open Go.ChangeShapes Go.WideShapes Go.ChangeAt Go.RowKit Go.Shelf swar under trap meter group probe lens tail call table evac
attribute [local go_sem] Oper.semAt_some stage.pureUpon move.stepUpon
set_option linter.unusedSimpArgs false
set_option linter.unusedVariables false

set_option maxRecDepth 100000 in
set_option maxHeartbeats 1000000 in
theorem st_long (a : String → Addr) (c : Cas) (s2 : Option Addr) (lb cb : Nat) (hl : ¬ ∃ n0, Short c n0) (w : World) (hw : Bq a w) :
    Calls Tryz.prog 5 #[.agg #[.int .i64 c.old, .int .i64 c.new, .int .i64 c.depth, .slice c.sh c.lh c.ch, .slice c.sk c.lk c.ck], .slice s2 lb cb] w fun e w' => e = .returned (.bool true) ∧ Below w.heap.size w w' := by
  have cA := fun W (hb : Below w.heap.size w W) => alive_any a W (hw.below hb)
  have hX0 := CBox.new c w
  have hb0 := new_block w (.cells #[.int .i64 c.old, .int .i64 c.new, .int .i64 c.depth, .slice c.sh c.lh c.ch, .slice c.sk c.lk c.ck] 25)
  have cL := fun W => long_yes hl W
  obtain ⟨old, new, depth, sh, lh, ch, sk, lk, ck⟩ := c
  simp only at *
  clear hl
  go_enter Tryz.func5, Tryz.ntmps5
  go_wp2_with (first
    | (go_at_call 6; refine (cA _ hb0).mono ?_; rintro e w1 ⟨rfl, hb1⟩; have ⟨x0, x1, x2, x3, x4⟩ := CBox.all (hX0.keep hb1))
    | (go_at_call 7; refine (cL _).mono ?_; rintro e w2 ⟨rfl, hb2⟩; have ⟨y0, y1, y2, y3, y4⟩ := CBox.all ((hX0.keep hb1).keep hb2)))
  go_ret
  exact ⟨rfl, under.below_step (under.below_step hb0 hb1) hb2⟩
set_option maxRecDepth 100000 in
set_option maxHeartbeats 1000000 in
theorem st_more (a : String → Addr) (c : Cas) (s2 : Option Addr) (lb cb : Nat) (n0 : Nat) (hS : Short c n0) (hm : 60 < lb) (w : World) (hw : Bq a w) :
    Calls Tryz.prog 5 #[.agg #[.int .i64 c.old, .int .i64 c.new, .int .i64 c.depth, .slice c.sh c.lh c.ch, .slice c.sk c.lk c.ck], .slice s2 lb cb] w fun e w' => e = .returned (.bool true) ∧ Below w.heap.size w w' := by
  have cA := fun W (hb : Below w.heap.size w W) => alive_any a W (hw.below hb)
  have hX0 := CBox.new c w
  have hb0 := new_block w (.cells #[.int .i64 c.old, .int .i64 c.new, .int .i64 c.depth, .slice c.sh c.lh c.ch, .slice c.sk c.lk c.ck] 25)
  have cL := fun W => long_no hS W
  have d1 : decide (60 < (lb : Int)) = true := decide_eq_true (by omega)
  obtain ⟨old, new, depth, sh, lh, ch, sk, lk, ck⟩ := c
  simp only at *
  clear hS hm
  go_enter Tryz.func5, Tryz.ntmps5
  go_wp2_with (first
    | (go_at_call 6; refine (cA _ hb0).mono ?_; rintro e w1 ⟨rfl, hb1⟩; have ⟨x0, x1, x2, x3, x4⟩ := CBox.all (hX0.keep hb1))
    | (go_at_call 7; refine (cL _).mono ?_; rintro e w2 ⟨rfl, hb2⟩; have ⟨y0, y1, y2, y3, y4⟩ := CBox.all ((hX0.keep hb1).keep hb2)))
  go_ret
  exact ⟨rfl, under.below_step (under.below_step hb0 hb1) hb2⟩
set_option maxRecDepth 100000 in
set_option maxHeartbeats 1000000 in
theorem st_full (a : String → Addr) (c : Cas) (s2 : Option Addr) (lb cb : Nat) (n0 : Nat) (hS : Short c n0) (hm : ¬ 60 < lb) (hf : wrap64 (6 * c.old) < (c.lk : Int) + lb) (w : World) (hw : Bq a w) :
    Calls Tryz.prog 5 #[.agg #[.int .i64 c.old, .int .i64 c.new, .int .i64 c.depth, .slice c.sh c.lh c.ch, .slice c.sk c.lk c.ck], .slice s2 lb cb] w fun e w' => e = .returned (.bool true) ∧ Below w.heap.size w w' := by
  have cA := fun W (hb : Below w.heap.size w W) => alive_any a W (hw.below hb)
  have hX0 := CBox.new c w
  have hb0 := new_block w (.cells #[.int .i64 c.old, .int .i64 c.new, .int .i64 c.depth, .slice c.sh c.lh c.ch, .slice c.sk c.lk c.ck] 25)
  have cL := fun W => long_no hS W
  have d1 : decide (60 < (lb : Int)) = false := decide_eq_false (by omega)
  have hkk := hS.k2
  have e2 : IntKind.i64.wrap ((c.lk : Int) + (lb : Int)) = (c.lk : Int) + lb := IntWalk.i64_in _ (by omega)
  have d2 : decide (wrap64 (6 * c.old) < (c.lk : Int) + lb) = true := decide_eq_true hf
  obtain ⟨old, new, depth, sh, lh, ch, sk, lk, ck⟩ := c
  simp only at *
  clear hS hm hf hkk
  go_enter Tryz.func5, Tryz.ntmps5
  go_wp2_with (first
    | (go_at_call 6; refine (cA _ hb0).mono ?_; rintro e w1 ⟨rfl, hb1⟩; have ⟨x0, x1, x2, x3, x4⟩ := CBox.all (hX0.keep hb1))
    | (go_at_call 7; refine (cL _).mono ?_; rintro e w2 ⟨rfl, hb2⟩; have ⟨y0, y1, y2, y3, y4⟩ := CBox.all ((hX0.keep hb1).keep hb2)))
  go_ret
  exact ⟨rfl, under.below_step (under.below_step hb0 hb1) hb2⟩
set_option maxRecDepth 100000 in
set_option maxHeartbeats 1000000 in
theorem st_small (a : String → Addr) (c : Cas) (s2 : Option Addr) (lb cb : Nat) (n0 : Nat) (hS : Short c n0) (hm : ¬ 60 < lb) (hf : ¬ wrap64 (6 * c.old) < (c.lk : Int) + lb) (hn : c.new < c.old) (w : World) (hw : Bq a w) :
    Calls Tryz.prog 5 #[.agg #[.int .i64 c.old, .int .i64 c.new, .int .i64 c.depth, .slice c.sh c.lh c.ch, .slice c.sk c.lk c.ck], .slice s2 lb cb] w fun e w' => e = .returned (.bool true) ∧ Below w.heap.size w w' := by
  have cA := fun W (hb : Below w.heap.size w W) => alive_any a W (hw.below hb)
  have hX0 := CBox.new c w
  have hb0 := new_block w (.cells #[.int .i64 c.old, .int .i64 c.new, .int .i64 c.depth, .slice c.sh c.lh c.ch, .slice c.sk c.lk c.ck] 25)
  have cL := fun W => long_no hS W
  have d1 : decide (60 < (lb : Int)) = false := decide_eq_false (by omega)
  have hkk := hS.k2
  have e2 : IntKind.i64.wrap ((c.lk : Int) + (lb : Int)) = (c.lk : Int) + lb := IntWalk.i64_in _ (by omega)
  have d2 : decide (wrap64 (6 * c.old) < (c.lk : Int) + lb) = false := decide_eq_false hf
  have d3 : decide (c.new < c.old) = true := decide_eq_true hn
  obtain ⟨old, new, depth, sh, lh, ch, sk, lk, ck⟩ := c
  simp only at *
  clear hS hm hf hkk hn
  go_enter Tryz.func5, Tryz.ntmps5
  go_wp2_with (first
    | (go_at_call 6; refine (cA _ hb0).mono ?_; rintro e w1 ⟨rfl, hb1⟩; have ⟨x0, x1, x2, x3, x4⟩ := CBox.all (hX0.keep hb1))
    | (go_at_call 7; refine (cL _).mono ?_; rintro e w2 ⟨rfl, hb2⟩; have ⟨y0, y1, y2, y3, y4⟩ := CBox.all ((hX0.keep hb1).keep hb2)))
  go_ret
  exact ⟨rfl, under.below_step (under.below_step hb0 hb1) hb2⟩
end Go.Proofs.YteedbnoefnlidaaGreatDoor.dual
