/- dual: a dual as a partial function: what Put, Delete, Find, Step answer. -/
import Derived.Test.YteedbnoefnlidaaGreatDoorDualMake
namespace Go.Proofs.YteedbnoefnlidaaGreatDoor.dual
open Go.ChangeShapes Go.WideShapes Go.ChangeAt Go.RowKit Go.Shelf swar under trap meter group probe lens tail call table evac
set_option linter.unusedSimpArgs false
set_option linter.unusedVariables false

theorem lkc_most (N d : Nat) (hN : N = 2 ∨ N = 3) : ∀ (l : List Sl) (u : Nat → Tb), (∀ i, i < N → (u i).n ≤ 64) → lkc N d u l ≤ 64 * l.length
  | [], _, _ => Nat.le_refl _
  | e :: l, u, h => by
    have h1 := looks_le (u (tgt N d e.hash)) e.key e.hash
    have h2 := h _ (tgt_lt hN d e.hash)
    have h3 := lkc_most N d hN l (mv1 N d u e) (fun i hi => by rw [mv1_n]; exact h i hi)
    show looks (u (tgt N d e.hash)) e.key e.hash + lkc N d (mv1 N d u e) l ≤ 64 * (l.length + 1)
    omega
theorem Mk_pr (B o : Nat) {p v k : Nat} : ∀ j, p + j ≤ 1000000 → (Ln.pr B o).see (Mk p v k) j = Mk (p + j) v k
  | 0, _ => rfl
  | j + 1, h => by
    rw [Ln.see_succ, Mk_pr B o j (by omega)]
    show (Mk (p + j) v k).probes 1 = _
    rw [Mk_probe (by omega)]; rfl
/-! ### groups that are moved have no entries -/
theorem off_upd {t : Tb} {c a k : Nat} (h : Off t c) (hk : k < 8) (h3 : (t.gs a k).kind = 3) (g' : Gp) (len tombs : Int) : Off ⟨t.n, upd t.gs a g', len, tombs⟩ c := fun g hg k' hk' => by
  have hne : g ≠ a := fun e => by subst e; exact h g hg k hk h3
  show (upd t.gs a g' g k').kind ≠ 3
  rw [upd_ne _ _ hne]; exact h g hg k' hk'
theorem there_slot {t : Tb} {key hs : Nat} (ht : isThere t key hs = true) : ∃ k : Nat, k < 8 ∧ slot t key hs = k ∧ (t.gs (lastG t key hs) k).kind = 3 := by
  obtain ⟨k, h1, h2, h3⟩ := there_is ht
  exact ⟨k, h1, h2, (hit_is h3).1⟩
theorem off_puts {t : Tb} {c key hs v : Nat} (h : Off t c) (ht : isThere t key hs = true) : Off (t.puts key hs v) c := by
  obtain ⟨k, h1, h2, h3⟩ := there_slot ht
  unfold Tb.puts
  rw [if_pos ht, replace_at h2]
  exact off_upd h h1 h3 _ _ _
theorem off_remove {t : Tb} {c key hs : Nat} (h : Off t c) : Off (t.remove key hs) c := by
  cases ht : isThere t key hs
  · unfold Tb.remove; rw [slot_neg ht, if_neg (by decide)]; exact h
  · obtain ⟨k, h1, h2, h3⟩ := there_slot ht
    rw [remove_at h2]
    exact off_upd h h1 h3 _ _ _
theorem off_dT {t : Nat → Tb} {c key hs v N d : Nat} (h : Off (t 0) c) : Off (dT t key hs v (js true N d hs) true 0) c := by
  have hp := tgt_pos N d hs
  cases hf : fnd t key hs (js true N d hs) with
  | none =>
    rw [(put_on hf).2.2, up_ne]
    · exact h
    · show 0 ≠ tgt N d hs; omega
  | some i =>
    obtain ⟨h1, h2⟩ := fnd_some hf
    rw [(put_found hf).2.2]
    by_cases e : i = 0
    · subst e; rw [up_same]; exact off_puts h h2
    · rw [up_ne _ _ (Ne.symm e)]; exact h
theorem off_eT {t : Nat → Tb} {c key hs : Nat} {J : List Nat} (h : Off (t 0) c) : Off (eT t key hs J 0) c := by
  cases hf : fnd t key hs J with
  | none => rw [del_off hf]; exact h
  | some i =>
    rw [del_found hf]
    by_cases e : i = 0
    · subst e; rw [up_same]; exact off_remove h
    · rw [up_ne _ _ (Ne.symm e)]; exact h
/-- a dual that holds the partial function F -/
structure DM (a : String → Addr) (w1 : World) (H : Nat → Nat) (la : Nat) (Y : Lay) (D n1 d : Nat) (dp : Int) (q c : Nat) (t : Nat → Tb) (F : Nat → Option Nat) (fp : List Nat) (W : World) : Prop where
  da : DAt a w1 Y D n1 d dp q false t fp W
  du : ∃ M, Du H la Y.N d F t M c
  tn : rdy Y n1 q = false → ∀ j, 1 ≤ j → t j = Tb.new n1
  off : rdy Y n1 q = true → Off (t 0) (q - (Y.N - 1) * n1)
section
variable {a : String → Addr} {w1 : World} {H : Nat → Nat} {la : Nat} {Y : Lay} {D n1 d : Nat} {dp : Int} {q c : Nat} {t : Nat → Tb} {F : Nat → Option Nat} {fp : List Nat} {W W' : World} {Bm p v k : Nat}
theorem DM.read (h : DM a w1 H la Y D n1 d dp q c t F fp W) (hb : Below W.heap.size W W') : DM a w1 H la Y D n1 d dp q c t F fp W' := ⟨h.da.read hb, h.du, h.tn, h.off⟩
theorem DM.aside {l : List Nat} (h : DM a w1 H la Y D n1 d dp q c t F fp W) (hp : Past l W W') (hl : ∀ b ∈ l, w1.heap.size ≤ b ∧ b ∉ fp) : DM a w1 H la Y D n1 d dp q c t F fp W' := ⟨h.da.aside hp hl, h.du, h.tn, h.off⟩
theorem DM.n64 (h : DM a w1 H la Y D n1 d dp q c t F fp W) {i : Nat} (hi : i < Y.N) : (t i).n ≤ 64 := by
  obtain ⟨M, hs⟩ := h.du
  exact okN_le (hs.rep i hi).rep.1.ok.n
theorem fndK_le {key hs : Nat} (N d : Nat) (hN : N = 2 ∨ N = 3) (hn : ∀ i, i < N → (t i).n ≤ 64) (rd : Bool) : fndK t key hs (js rd N d hs) ≤ 128 := by
  have one : ∀ i, i < N → looks (t i) key hs ≤ 64 := fun i hi => by
    have := looks_le (t i) key hs
    have := hn i hi
    omega
  have a0 := one 0 (by omega)
  have a1 := one (tgt N d hs) (tgt_lt hN d hs)
  have step : ∀ i l, fndK t key hs (i :: l) ≤ looks (t i) key hs + fndK t key hs l := fun i l => by
    show looks (t i) key hs + (if isThere (t i) key hs = true then 0 else fndK t key hs l) ≤ _
    split <;> omega
  have e0 : fndK t key hs [] = 0 := rfl
  have s0 := step 0 []
  cases rd
  · show fndK t key hs [0] ≤ 128
    omega
  · have s1 := step (tgt N d hs) [0]
    show fndK t key hs [tgt N d hs, 0] ≤ 128
    omega
theorem DM.rn (h : DM a w1 H la Y D n1 d dp q c t F fp W) (hr : rdy Y n1 q = true) {i : Nat} (h1 : 1 ≤ i) (hi : i < Y.N) : (t i).n = n1 := by
  have hre := h.da.re
  rw [hr] at hre
  have e := hre.tn i hi
  obtain ⟨Q, pl⟩ := h.da.pl
  rw [e]
  exact pl.e1 i h1 hi
theorem DM.sub (h : DM a w1 H la Y D n1 d dp q c t F fp W) : ∀ b ∈ Y.tall, b ∈ fp := h.da.tin
theorem DM.put (h : DM a w1 H la Y D n1 d dp q c t F fp W) (hla : la ≤ 1000) (hH : ∀ key, key < la → H key < 18446744073709551616) (hc : c < 7 * n1) (hm : MAt Bm 0 (Mk p v k) W) (hB0 : w1.heap.size ≤ Bm) (hB : Bm ∉ fp) {key val : Nat} (hk : key < la) (hv : val < 18446744073709551616) (hp : p + 200 ≤ 1000000) :
    Calls Tryz.prog 12 #[.pointer (some ⟨D, 0, none⟩), .agg #[.pointer (some ⟨Bm, 0, none⟩)], group.entV key val (H key), .bool true] W fun e w' => ∃ p', p' ≤ p + 128 ∧ MAt Bm 0 (Mk p' v k) w' ∧ Past (Bm :: fp) W w' ∧
      ((e = .returned (.tuple #[.bool (!(F key).isSome), .nilIface]) ∧ ∃ t', DM a w1 H la Y D n1 d dp q (c + 1) t' (set F key (some val)) fp w') ∨
       (rdy Y n1 q = false ∧ F key = none ∧ e = .returned (.tuple #[.bool false, errs.errV (a (errs.nm 1))]) ∧ DM a w1 H la Y D n1 d dp q c t F fp w')) := by
  have hN := h.da.N
  obtain ⟨M, hs⟩ := h.du
  have hK := fndK_le (key := key) (hs := H key) (t := t) Y.N d hN (fun i hi => h.n64 hi) (rdy Y n1 q)
  have hr : rdy Y n1 q = true → ∀ i, 1 ≤ i → i < Y.N → (c : Int) < 7 * ((t i).n : Int) := fun e i h1 hi => by rw [h.rn e h1 hi]; omega
  have hd : ∀ b ∈ (Ln.pr Bm 0).d, w1.heap.size ≤ b ∧ b ∉ fp := fun b hb => by
    obtain rfl : b = Bm := by simpa [Ln.d] using hb
    exact ⟨hB0, hB⟩
  refine (h.da.put (L := .pr Bm 0) hm hd key val (H key) (by omega) hv (hH _ hk) true).mono fun e w' ⟨he, hD, hst⟩ => ?_
  have hat := hst.at'
  rw [Mk_pr Bm 0 _ (by omega)] at hat
  refine ⟨_, by omega, hat, hst.past.mono fun b hb => ?_, ?_⟩
  · rcases List.mem_append.1 hb with hb | hb
    · exact List.mem_cons_of_mem _ (h.sub b hb)
    · obtain rfl : b = Bm := by simpa [Ln.d] using hb
      exact List.mem_cons_self
  · rcases hs.dput hN h.tn hla hH hr hk hv with ⟨e1, e2, hM, hT⟩ | ⟨e0, e1, e2, e3, e4⟩
    · left
      rw [e1, e2] at he
      exact ⟨he, _, ⟨hD, hM, hT, fun e => by have := h.off e; rw [e]; exact off_dT this⟩⟩
    · right
      rw [e2, e3] at he
      rw [e4] at hD
      exact ⟨e0, e1, he, ⟨hD, ⟨M, hs⟩, h.tn, h.off⟩⟩
theorem DM.delete (h : DM a w1 H la Y D n1 d dp q c t F fp W) (hla : la ≤ 1000) (hH : ∀ key, key < la → H key < 18446744073709551616) (hm : MAt Bm 0 (Mk p v k) W) (hB0 : w1.heap.size ≤ Bm) (hB : Bm ∉ fp) {key : Nat} (hk : key < la) (hp : p + 200 ≤ 1000000) :
    Calls Tryz.prog 16 #[.pointer (some ⟨D, 0, none⟩), .agg #[.pointer (some ⟨Bm, 0, none⟩)], .int .u64 (key : Nat), .int .u64 (H key : Nat)] W fun e w' => ∃ p' ek ev eh, p' ≤ p + 128 ∧ MAt Bm 0 (Mk p' v k) w' ∧ Past (Bm :: fp) W w' ∧
      e = .returned (.tuple #[group.entV ek ev eh, .bool (F key).isSome]) ∧ (∀ u, F key = some u → ev = u) ∧ ∃ t', DM a w1 H la Y D n1 d dp q c t' (set F key none) fp w' := by
  have hN := h.da.N
  obtain ⟨M, hs⟩ := h.du
  have hK := fndK_le (key := key) (hs := H key) (t := t) Y.N d hN (fun i hi => h.n64 hi) (rdy Y n1 q)
  have hd : ∀ b ∈ (Ln.pr Bm 0).d, w1.heap.size ≤ b ∧ b ∉ fp := fun b hb => by
    obtain rfl : b = Bm := by simpa [Ln.d] using hb
    exact ⟨hB0, hB⟩
  obtain ⟨s1, s2⟩ := hs.seekV (rd := rdy Y n1 q) hN h.tn key
  refine (h.da.delete (L := .pr Bm 0) hm hd key (H key) (by omega) (hH _ hk)).mono fun e w' ⟨he, hD, hst⟩ => ?_
  have hat := hst.at'
  rw [Mk_pr Bm 0 _ (by omega)] at hat
  obtain ⟨hM, hT⟩ := hs.ddel hN h.tn hk
  rw [s1] at he
  refine ⟨_, _, _, _, by omega, hat, hst.past.mono fun b hb => ?_, he, s2, _, ⟨hD, hM, hT, fun e => off_eT (h.off e)⟩⟩
  rcases List.mem_append.1 hb with hb | hb
  · exact List.mem_cons_of_mem _ (h.sub b hb)
  · obtain rfl : b = Bm := by simpa [Ln.d] using hb
    exact List.mem_cons_self
theorem DM.find (h : DM a w1 H la Y D n1 d dp q c t F fp W) (hla : la ≤ 1000) (hH : ∀ key, key < la → H key < 18446744073709551616) {key : Nat} (hk : key < la) :
    Calls Tryz.prog 18 #[.pointer (some ⟨D, 0, none⟩), .agg #[.pointer none], .int .u64 (key : Nat), .int .u64 (H key : Nat)] W fun e w' => ∃ ek ev eh, e = .returned (.tuple #[group.entV ek ev eh, .bool (F key).isSome]) ∧ (∀ u, F key = some u → ev = u) ∧ Below W.heap.size W w' := by
  have hN := h.da.N
  obtain ⟨M, hs⟩ := h.du
  obtain ⟨s1, s2⟩ := hs.seekV (rd := rdy Y n1 q) hN h.tn key
  refine (h.da.find (L := .nil) (m := Mt.zero) trivial (fun b hb => by cases hb) key (H key) (by omega) (hH _ hk)).mono fun e w' ⟨he, _, hst⟩ => by
    rw [s1] at he
    exact ⟨_, _, _, he, s2, Past.nil hst.past⟩
theorem DM.left (h : DM a w1 H la Y D n1 d dp q c t F fp W) : Calls Tryz.prog 36 #[.pointer (some ⟨D, 0, none⟩)] W fun e w' => e = .returned (.int .i64 ((Y.n 0 + (Y.N - 1) * n1 - q : Nat) : Int)) ∧ Below W.heap.size W w' := h.da.left
theorem DM.stop (h : DM a w1 H la Y D n1 d dp q c t F fp W) (hq : q = Y.n 0 + (Y.N - 1) * n1) (x : Option Addr) : Calls Tryz.prog 31 #[.pointer (some ⟨D, 0, none⟩), .pointer x] W fun e w' => e = .returned (.bool false) ∧ Below W.heap.size W w' := h.da.step_off hq x
theorem DM.step (h : DM a w1 H la Y D n1 d dp q c t F fp W) (hla : la ≤ 1000) (hH : ∀ key, key < la → H key < 18446744073709551616) (hc : c < 7 * n1) (hq : q < Y.n 0 + (Y.N - 1) * n1) (hm : MAt Bm 0 (Mk p v k) W) (hB0 : w1.heap.size ≤ Bm) (hB : Bm ∉ fp) (hp : p ≤ 1000000) (hv : v + 600 ≤ 1000000) (hk : k + 1 ≤ 1000000) :
    Calls Tryz.prog 31 #[.pointer (some ⟨D, 0, none⟩), .pointer (some ⟨Bm, 0, none⟩)] W fun e w' => e = .returned (.bool true) ∧ ∃ v' t' fp', v' ≤ v + 600 ∧ MAt Bm 0 (Mk p v' (k + 1)) w' ∧ Past (Bm :: fp) W w' ∧ (∀ b ∈ fp', b ∈ fp ∨ W.heap.size ≤ b) ∧ DM a w1 H la Y D n1 d dp (q + 1) c t' F fp' w' := by
  have hN := h.da.N
  obtain ⟨M, hs⟩ := h.du
  have key : sG (rdy Y n1 q) Y.N d (q - (Y.N - 1) * n1) t = true ∧ (∃ M', Du H la Y.N d F (sT (rdy Y n1 q) Y.N d (q - (Y.N - 1) * n1) t) M' c) ∧ (rdy Y n1 (q + 1) = false → ∀ j, 1 ≤ j → sT (rdy Y n1 q) Y.N d (q - (Y.N - 1) * n1) t j = Tb.new n1) := by
    cases hr : rdy Y n1 q with
    | false =>
      refine ⟨rfl, ⟨M, hs⟩, fun _ => ?_⟩
      exact h.tn hr
    | true =>
      have hnx : q - (Y.N - 1) * n1 < (t 0).n := by
        have := h.da.re.tn 0 (cut_pos hN _)
        have e : (cut Y (rdy Y n1 q)).n 0 = Y.n 0 := rfl
        rw [this, e]
        have : (Y.N - 1) * n1 ≤ q := of_decide_eq_true hr
        omega
      obtain ⟨g, hM⟩ := hs.step hN hla hH (fun i h1 hi => by rw [h.rn hr h1 hi]; omega) hnx
      refine ⟨g, hM, fun e => ?_⟩
      have h1 : (Y.N - 1) * n1 ≤ q := of_decide_eq_true hr
      have h2 : ¬ (Y.N - 1) * n1 ≤ q + 1 := of_decide_eq_false e
      omega
  have key3 : rdy Y n1 (q + 1) = true → Off (sT (rdy Y n1 q) Y.N d (q - (Y.N - 1) * n1) t 0) (q + 1 - (Y.N - 1) * n1) := fun e => by
    cases hr : rdy Y n1 q with
    | false =>
      have h1 : (Y.N - 1) * n1 ≤ q + 1 := of_decide_eq_true e
      have h2 : ¬ (Y.N - 1) * n1 ≤ q := of_decide_eq_false hr
      rw [show q + 1 - (Y.N - 1) * n1 = 0 by omega]
      exact fun g hg => absurd hg (Nat.not_lt_zero g)
    | true =>
      have h1 : (Y.N - 1) * n1 ≤ q := of_decide_eq_true hr
      rw [show q + 1 - (Y.N - 1) * n1 = q - (Y.N - 1) * n1 + 1 by omega]
      rw [sT_yes]
      exact Off.next (h.off hr)
  have hl : sK (rdy Y n1 q) Y.N d (q - (Y.N - 1) * n1) t ≤ 512 := by
    unfold sK
    split
    · have h1 := lkc_most Y.N d hN (lst t (q - (Y.N - 1) * n1)) t (fun i hi => h.n64 hi)
      have h2 := lst_length t (q - (Y.N - 1) * n1)
      omega
    · omega
  refine (h.da.step_on hq hm (Mk_ok (by omega) (by omega) (by omega)) (Mk_E _ _ _) hB0 hB).mono fun e w' r => ?_
  rcases r with ⟨_, he, fp', hD, hm', hp', hf⟩ | ⟨hg, _⟩
  · rw [Mk_unit (by omega), Mk_visit (by omega), Mk_see _ (by omega)] at hm'
    exact ⟨he, _, _, fp', by omega, hm', hp', hf, ⟨hD, key.2.1, key.2.2, key3⟩⟩
  · rw [key.1] at hg; cases hg
theorem DM.mono {c' : Nat} (h : DM a w1 H la Y D n1 d dp q c t F fp W) (hc : c ≤ c') : DM a w1 H la Y D n1 d dp q c' t F fp W := by
  obtain ⟨M, hs⟩ := h.du
  exact ⟨h.da, ⟨M, ⟨hs.rep, hs.tg, hs.one, hs.un, fun i h1 hi => by have := hs.cn i h1 hi; omega⟩⟩, h.tn, h.off⟩
/-- a dual that is new -/
theorem DM.start (h : DAt a w1 Y D n1 d dp 0 false t fp W) (hn : n1 ≠ 0) {M0 : Nat → Option Nat} (h0 : RepN H la (t 0) M0) (ht : ∀ j, 1 ≤ j → t j = Tb.new n1) (hc : (t 0).len ≤ (c : Int)) : DM a w1 H la Y D n1 d dp 0 c t M0 fp W := by
  obtain ⟨Q, pl⟩ := h.pl
  refine ⟨h, ⟨_, Du.start pl.N h0 (fun i h1 hi => ?_) hc⟩, fun _ => ht, fun e => ?_⟩
  · rw [ht i h1]
    exact ⟨RepN.new pl.o1 H, rfl⟩
  · have h1 : (Y.N - 1) * n1 ≤ 0 := of_decide_eq_true e
    have h2 := Nat.mul_pos (show 0 < Y.N - 1 by have := pl.N; omega) (Nat.pos_of_ne_zero hn)
    omega
end
end Go.Proofs.YteedbnoefnlidaaGreatDoor.dual
