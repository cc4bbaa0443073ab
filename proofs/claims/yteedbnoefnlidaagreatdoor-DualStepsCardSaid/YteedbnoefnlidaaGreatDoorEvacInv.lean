/- evac: what is in the tables, as partial functions, while groups are moved: the plain mathematics. No function is walked here. -/
import Derived.Test.YteedbnoefnlidaaGreatDoorEvac
import Derived.Test.YteedbnoefnlidaaGreatDoorTabEnt
namespace Go.Proofs.YteedbnoefnlidaaGreatDoor.evac
open group probe swar table
set_option linter.unusedSimpArgs false
set_option linter.unusedVariables false

/-! ### a group is taken -/
theorem tk_off (t : Tb) (a : Nat) : ∀ k, (∀ j, j < k → ((tk t a k).gs a j).kind ≠ 3) ∧ ∀ g, g ≠ a → (tk t a k).gs g = t.gs g
  | 0 => ⟨fun j hj => absurd hj (Nat.not_lt_zero j), fun g hg => rfl⟩
  | k + 1 => by
    obtain ⟨h1, h2⟩ := tk_off t a k
    rw [tk_succ]
    split
    · next h3 =>
      refine ⟨fun j hj => ?_, fun g hg => ?_⟩
      · show (upd (tk t a k).gs a (((tk t a k).gs a).put k (erased ((tk t a k).gs a))) a j).kind ≠ 3
        rw [upd_same]
        by_cases e : j = k
        · subst e; rw [put_same]; unfold erased; split <;> decide
        · rw [put_ne _ _ e]; exact h1 j (by omega)
      · show upd (tk t a k).gs a _ g = _
        rw [upd_ne _ _ hg]; exact h2 g hg
    · next h3 =>
      refine ⟨fun j hj => ?_, h2⟩
      by_cases e : j = k
      · subst e; exact h3
      · exact h1 j (by omega)
/-- the keys that stand in a group -/
def inG (t : Tb) (a : Nat) (key : Nat) : Prop := ∃ k, Stands t key a k
theorem tk_rep {H : Nat → Nat} {la : Nat} {t : Tb} {M : Nat → Option Nat} (h : RepN H la t M) {a : Nat} (ha : a < t.n) : ∀ k, k ≤ 8 → ∃ M', RepN H la (tk t a k) M' ∧ (∀ key, (∃ j, j < k ∧ Stands t key a j) → M' key = none) ∧ ∀ key, (¬ ∃ j, j < k ∧ Stands t key a j) → M' key = M key
  | 0, _ => ⟨M, h, fun key ⟨j, hj, _⟩ => absurd hj (Nat.not_lt_zero j), fun key _ => rfl⟩
  | k + 1, hk => by
    obtain ⟨M', h', h1, h2⟩ := tk_rep h ha k (by omega)
    rw [tk_succ]
    have hf := tk_far t a k k (Nat.le_refl _)
    split
    · next h3 =>
      have hs : Stands (tk t a k) ((tk t a k).gs a k).key a k := ⟨by rw [tk_n]; exact ha, by omega, h3, rfl⟩
      have hs' : Stands t ((tk t a k).gs a k).key a k := ⟨ha, by omega, by rw [← hf]; exact h3, by rw [hf]⟩
      have hr := h'.rep.era hs
      have hM : (M' ((tk t a k).gs a k).key).isSome = true := by
        have := (h'.rep.2 ((tk t a k).gs a k).key _).2 ⟨a, k, hs, rfl⟩
        rw [this]; rfl
      have hla : ((tk t a k).gs a k).key < la := by
        rcases Nat.lt_or_ge ((tk t a k).gs a k).key la with h | h
        · exact h
        · have := h'.far _ h; rw [this] at hM; cases hM
      refine ⟨_, ⟨hr, fun x hx => by rw [set_ne _ _ (by omega)]; exact h'.far x hx, ?_⟩, fun key ⟨j, hj, hst⟩ => ?_, fun key hno => ?_⟩
      · show (tk t a k).len - 1 = _
        rw [h'.len, cntM_del (M := M') hla, hM]; simp
      · by_cases e : key = ((tk t a k).gs a k).key
        · rw [e, set_same]
        · rw [set_ne _ _ e]
          refine h1 key ⟨j, ?_, hst⟩
          rcases Nat.lt_or_ge j k with h | h
          · exact h
          · exfalso
            obtain rfl : j = k := by omega
            exact e (by rw [hf]; exact hst.2.2.2.symm)
      · have e : key ≠ ((tk t a k).gs a k).key := fun e => hno ⟨k, by omega, by rw [e]; exact hs'⟩
        rw [set_ne _ _ e]
        exact h2 key fun ⟨j, hj, hst⟩ => hno ⟨j, by omega, hst⟩
    · next h3 =>
      have hno : ∀ key, ¬ Stands t key a k := fun key hs => h3 (by rw [hf]; exact hs.2.2.1)
      refine ⟨M', h', fun key ⟨j, hj, hst⟩ => h1 key ⟨j, ?_, hst⟩, fun key hh => h2 key fun ⟨j, hj, hst⟩ => hh ⟨j, by omega, hst⟩⟩
      rcases Nat.lt_or_ge j k with h | h
      · exact h
      · obtain rfl : j = k := by omega
        exact absurd hst (hno key)
theorem mem_fulls {g : Gp} {k : Nat} (h : k ∈ fulls g) : k < 8 ∧ (g k).kind = 3 := by
  unfold fulls at h
  have := List.mem_filter.1 h
  exact ⟨List.mem_range.1 this.1, of_decide_eq_true this.2⟩
theorem fulls_mem {g : Gp} {k : Nat} (hk : k < 8) (h : (g k).kind = 3) : k ∈ fulls g := by
  unfold fulls
  exact List.mem_filter.2 ⟨List.mem_range.2 hk, decide_eq_true h⟩
theorem mem_lst {u : Nat → Tb} {i : Nat} (hi : i < (u 0).n) {e : Sl} (he : e ∈ lst u i) : ∃ k, Stands (u 0) e.key i k ∧ (u 0).gs i k = e := by
  unfold lst entsG at he
  obtain ⟨k, hk, rfl⟩ := List.mem_map.1 he
  have hk' : k < 8 ∧ ((u 0).gs i k).kind = 3 := mem_fulls hk
  exact ⟨k, ⟨hi, hk'.1, hk'.2, rfl⟩, rfl⟩
theorem lst_mem {u : Nat → Tb} {i k key : Nat} (h : Stands (u 0) key i k) : (u 0).gs i k ∈ lst u i := by
  unfold lst entsG
  exact List.mem_map.2 ⟨k, fulls_mem h.2.1 h.2.2.1, rfl⟩
/-! ### all tables -/
/-- what is in them: each key of U in the old table or in its target -/
structure Sta (H : Nat → Nat) (la N d : Nat) (U : Nat → Bool) (t : Nat → Tb) (M : Nat → Nat → Option Nat) : Prop where
  rep : ∀ i, i < N → RepN H la (t i) (M i)
  val : ∀ i, i < N → ∀ key v, M i key = some v → v = key + 5
  tg : ∀ i, 1 ≤ i → i < N → ∀ key, (M i key).isSome = true → tgt N d (H key) = i
  one : ∀ key, (M 0 key).isSome = true → M (tgt N d (H key)) key = none
  un : ∀ key, U key = ((M 0 key).isSome || (M (tgt N d (H key)) key).isSome)
  tb : ∀ i, 1 ≤ i → i < N → (t i).tombs = 0
theorem Sta.len_le {H : Nat → Nat} {la N d : Nat} {U : Nat → Bool} {t : Nat → Tb} {M : Nat → Nat → Option Nat} (h : Sta H la N d U t M) {i : Nat} (hi : i < N) : (t i).len ≤ ((List.range la).countP U : Nat) := by
  rw [(h.rep i hi).len]
  have : cntM la (M i) ≤ (List.range la).countP U := List.countP_mono_left fun key _ hk => by
    rw [h.un]
    rcases Nat.eq_zero_or_pos i with rfl | h1
    · rw [hk]; rfl
    · rw [h.tg i h1 hi key hk, hk, Bool.or_true]
  omega
/-- within a step: the entries of one group are put into their targets, and still stand in the old table -/
structure Mid (H : Nat → Nat) (la N d : Nat) (t0 : Nat → Tb) (M : Nat → Nat → Option Nat) (D : Nat → Prop) (t : Nat → Tb) (M' : Nat → Nat → Option Nat) : Prop where
  zero : t 0 = t0 0
  rep : ∀ i, 1 ≤ i → i < N → RepN H la (t i) (M' i)
  old : ∀ i, 1 ≤ i → i < N → ∀ key, ¬ (D key ∧ tgt N d (H key) = i) → M' i key = M i key
  new : ∀ i, 1 ≤ i → i < N → ∀ key, D key → tgt N d (H key) = i → M' i key = M 0 key
  tb : ∀ i, 1 ≤ i → i < N → (t i).tombs = 0
  n : ∀ i, (t i).n = (t0 i).n
theorem Mid.len {H : Nat → Nat} {la N d : Nat} {U : Nat → Bool} {t0 t : Nat → Tb} {M M' : Nat → Nat → Option Nat} {D : Nat → Prop} (s : Sta H la N d U t0 M) (h : Mid H la N d t0 M D t M') {i : Nat} (h1 : 1 ≤ i) (hi : i < N) : (t i).len ≤ ((List.range la).countP U : Nat) := by
  rw [(h.rep i h1 hi).len]
  have : cntM la (M' i) ≤ (List.range la).countP U := List.countP_mono_left fun key _ hk => by
    rw [s.un]
    by_cases e : D key ∧ tgt N d (H key) = i
    · rw [h.new i h1 hi key e.1 e.2] at hk
      rw [hk]; rfl
    · rw [h.old i h1 hi key e] at hk
      rw [s.tg i h1 hi key hk, hk, Bool.or_true]
  omega
theorem puts_tombs {t : Tb} (h : t.Ok) (h0 : t.tombs = 0) {key hs v : Nat} (hk : key < 18446744073709551616) (hh : hs < 18446744073709551616) (hv : v < 18446744073709551616) : (t.puts key hs v).tombs = 0 := by
  unfold Tb.puts
  cases ht : isThere t key hs
  · show (t.place key hs v).tombs = 0
    by_cases he : roomE t key hs = 0
    · obtain ⟨_, k, _, h3, _⟩ := room_is he
      have hb := (h.place (key := key) (hs := hs) (v := v) hk hh hv).bounds
      rw [place_at he h3] at hb ⊢
      have e : (t.put (roomG t key hs) k ⟨3, key, v, hs⟩).tombs = if is 2 (t.gs (roomG t key hs)) k = true then t.tombs - 1 else t.tombs := rfl
      rw [e] at hb ⊢
      split at hb
      · omega
      · next hc => rw [if_neg hc]; exact h0
    · rw [place_no he]; exact h0
  · show (t.replace key hs v).tombs = 0
    unfold Tb.replace
    split
    · exact h0
    · exact h0
theorem repN_put {H : Nat → Nat} {la : Nat} {t : Tb} {M : Nat → Option Nat} (h : RepN H la t M) {key v : Nat} (hk : key < la) (hkey : key < 18446744073709551616) (hh : H key < 18446744073709551616) (hv : v < 18446744073709551616) (hc : (M key).isSome = true ∨ 1 ≤ t.left) :
    RepN H la (t.puts key (H key) v) (set M key (some v)) ∧ putE' t key (H key) = 0 ∧ putB' t key (H key) = !(M key).isSome := by
  obtain ⟨a, c, d, b, _⟩ := (h.rep.puts hkey hh hv).1 hc
  refine ⟨⟨a, fun k hk' => by rw [set_ne _ _ (by omega)]; exact h.far k hk', ?_⟩, c, d⟩
  rw [b, h.len, cntM_some hk]; split <;> omega
section
variable {H : Nat → Nat} {la N d : Nat} {U : Nat → Bool} {t : Nat → Tb} {M : Nat → Nat → Option Nat}
theorem Mid.next {t1 : Nat → Tb} {M1 : Nat → Nat → Option Nat} {D : Nat → Prop} (hN : N = 2 ∨ N = 3) (hla : la ≤ 1000) (hH : ∀ key, key < la → H key < 18446744073709551616) (s : Sta H la N d U t M) (hr : ∀ i, 1 ≤ i → i < N → ((List.range la).countP U : Int) < 7 * ((t i).n : Int)) {e : Sl} (he1 : M 0 e.key = some e.val) (he2 : e.hash = H e.key) (hno : ¬ D e.key) (h : Mid H la N d t M D t1 M1) :
    good1 N d t1 e = true ∧ ∃ M2, Mid H la N d t M (fun key => D key ∨ key = e.key) (mv1 N d t1 e) M2 := by
  have hk : e.key < la := by
    rcases Nat.lt_or_ge e.key la with h' | h'
    · exact h'
    · have := (s.rep 0 (by omega)).far _ h'; rw [this] at he1; cases he1
  have hv := s.val 0 (by omega) _ _ he1
  have p1 := tgt_pos N d (H e.key)
  have p2 := tgt_lt hN d (H e.key)
  have hM : M1 (tgt N d (H e.key)) e.key = none := by
    rw [h.old _ p1 p2 e.key fun q => hno q.1]
    exact s.one _ (by rw [he1]; rfl)
  have hl : 1 ≤ (t1 (tgt N d (H e.key))).left := by
    have q1 := Mid.len s h p1 p2
    have q2 := hr _ p1 p2
    have q3 := h.tb _ p1 p2
    have q4 := h.n (tgt N d (H e.key))
    unfold Tb.left
    omega
  obtain ⟨a, b, c⟩ := repN_put (h.rep _ p1 p2) (v := e.val) hk (by omega) (hH _ hk) (by omega) (.inr hl)
  rw [hM] at c
  refine ⟨?_, fun i => if i = tgt N d (H e.key) then set (M1 i) e.key (some e.val) else M1 i, ⟨?_, fun i h1 hi => ?_, fun i h1 hi key hc => ?_, fun i h1 hi key hD ht => ?_, fun i h1 hi => ?_, fun i => ?_⟩⟩
  · unfold good1; rw [he2, b, c]; rfl
  · unfold mv1; rw [he2, up_ne _ _ (by omega)]; exact h.zero
  · unfold mv1; rw [he2]
    by_cases q : i = tgt N d (H e.key)
    · subst q; rw [up_same, if_pos rfl]; exact a
    · rw [up_ne _ _ q, if_neg q]; exact h.rep i h1 hi
  · by_cases q : i = tgt N d (H e.key)
    · rw [if_pos q, set_ne]
      · exact h.old i h1 hi key fun x => hc ⟨.inl x.1, x.2⟩
      · intro x; subst x; exact hc ⟨.inr rfl, q.symm⟩
    · rw [if_neg q]; exact h.old i h1 hi key fun x => hc ⟨.inl x.1, x.2⟩
  · by_cases x : key = e.key
    · subst x
      rw [if_pos ht.symm, set_same, he1]
    · have hD' : D key := hD.resolve_right x
      split
      · rw [set_ne _ _ x]; exact h.new i h1 hi key hD' ht
      · exact h.new i h1 hi key hD' ht
  · unfold mv1; rw [he2]
    by_cases q : i = tgt N d (H e.key)
    · subst q; rw [up_same]; exact puts_tombs (h.rep _ p1 p2).rep.1.ok (h.tb _ p1 p2) (by omega) (hH _ hk) (by omega)
    · rw [up_ne _ _ q]; exact h.tb i h1 hi
  · rw [mv1_n]; exact h.n i
theorem Mid.all (hN : N = 2 ∨ N = 3) (hla : la ≤ 1000) (hH : ∀ key, key < la → H key < 18446744073709551616) (s : Sta H la N d U t M) (hr : ∀ i, 1 ≤ i → i < N → ((List.range la).countP U : Int) < 7 * ((t i).n : Int)) : ∀ (l : List Sl) (D : Nat → Prop) (t1 : Nat → Tb) (M1 : Nat → Nat → Option Nat),
    (∀ e ∈ l, M 0 e.key = some e.val ∧ e.hash = H e.key ∧ ¬ D e.key) → (l.map Sl.key).Nodup → Mid H la N d t M D t1 M1 → goods N d t1 l = true ∧ ∃ M2 D2, Mid H la N d t M D2 (mvs N d t1 l) M2 ∧ ∀ key, D2 key ↔ (D key ∨ ∃ e ∈ l, e.key = key)
  | [], D, t1, M1, _, _, h => ⟨rfl, M1, D, h, fun key => ⟨.inl, fun q => q.resolve_right fun ⟨e, he, _⟩ => by cases he⟩⟩
  | e :: l, D, t1, M1, he, hn, h => by
    obtain ⟨q1, q2, q3⟩ := he e List.mem_cons_self
    obtain ⟨g, M2, h2⟩ := Mid.next hN hla hH s hr q1 q2 q3 h
    have hn' := List.nodup_cons.1 hn
    obtain ⟨g2, M3, D3, h3, h4⟩ := Mid.all hN hla hH s hr l _ _ _ (fun x hx => by
      obtain ⟨a, b, c⟩ := he x (List.mem_cons_of_mem _ hx)
      exact ⟨a, b, fun hD => hD.elim c fun hk => hn'.1 (by rw [← hk]; exact List.mem_map_of_mem hx)⟩) hn'.2 h2
    refine ⟨by show (_ && _) = true; rw [g, g2]; rfl, M3, D3, h3, fun key => ?_⟩
    rw [h4]
    constructor
    · rintro ((a | rfl) | ⟨x, hx, rfl⟩)
      · exact .inl a
      · exact .inr ⟨e, List.mem_cons_self, rfl⟩
      · exact .inr ⟨x, List.mem_cons_of_mem _ hx, rfl⟩
    · rintro (a | ⟨x, hx, rfl⟩)
      · exact .inl (.inl a)
      · rcases List.mem_cons.1 hx with rfl | hx
        · exact .inl (.inr rfl)
        · exact .inr ⟨x, hx, rfl⟩
theorem lst_nodup {i : Nat} (hI : Inv H (t 0)) (hi : i < (t 0).n) : ((lst t i).map Sl.key).Nodup := by
  unfold lst entsG
  rw [List.map_map]
  have hf : (fulls ((t 0).gs i)).Nodup := by unfold fulls; exact List.Pairwise.filter _ (show l8.Nodup by decide)
  refine List.pairwise_map.2 (List.Pairwise.imp_of_mem (fun {x y} hx hy hne hxy => hne ?_) hf)
  have hx' := mem_fulls hx
  have hy' := mem_fulls hy
  have s1 : Stands (t 0) ((t 0).gs i x).key i x := ⟨hi, hx'.1, hx'.2, rfl⟩
  have s2 : Stands (t 0) ((t 0).gs i x).key i y := ⟨hi, hy'.1, hy'.2, hxy.symm⟩
  have a := (found hI s1).2
  have b := (found hI s2).2
  omega
/-- a group is moved -/
theorem Sta.step (hN : N = 2 ∨ N = 3) (hla : la ≤ 1000) (hH : ∀ key, key < la → H key < 18446744073709551616) (s : Sta H la N d U t M) (hr : ∀ i, 1 ≤ i → i < N → ((List.range la).countP U : Int) < 7 * ((t i).n : Int)) {i : Nat} (hi : i < (t 0).n) :
    goods N d t (lst t i) = true ∧ ∃ M', Sta H la N d U (tak (mvs N d t (lst t i)) i) M' := by
  have hI := (s.rep 0 (by omega)).rep.1
  have m0 : Mid H la N d t M (fun _ => False) t M := ⟨rfl, fun i h1 hi => s.rep i hi, fun i h1 hi key _ => rfl, fun i h1 hi key hD _ => hD.elim, s.tb, fun i => rfl⟩
  obtain ⟨g, M2, D2, h, hD⟩ := Mid.all hN hla hH s hr (lst t i) _ _ _ (fun e he => by
    obtain ⟨k, hs, rfl⟩ := mem_lst hi he
    exact ⟨((s.rep 0 (by omega)).rep.2 _ _).2 ⟨i, k, hs, rfl⟩, hI.hash _ _ _ hs, fun q => q⟩) (lst_nodup hI hi) m0
  have hD' : ∀ key, D2 key ↔ ∃ j, j < 8 ∧ Stands (t 0) key i j := fun key => by
    rw [hD]
    constructor
    · rintro (q | ⟨e, he, rfl⟩)
      · exact q.elim
      · obtain ⟨k, hs, _⟩ := mem_lst hi he
        exact ⟨k, hs.2.1, hs⟩
    · rintro ⟨j, _, hs⟩
      exact .inr ⟨_, lst_mem hs, hs.2.2.2⟩
  obtain ⟨M0, h0, h1, h2⟩ := tk_rep (s.rep 0 (by omega)) hi 8 (Nat.le_refl _)
  have hs0 : ∀ key, D2 key → ∃ v, M 0 key = some v := fun key hk => by
    obtain ⟨j, _, hs⟩ := (hD' key).1 hk
    exact ⟨_, ((s.rep 0 (by omega)).rep.2 _ _).2 ⟨i, j, hs, rfl⟩⟩
  have hpos : ∀ key, tgt N d (H key) ≠ 0 := fun key => by have := tgt_pos N d (H key); omega
  have z0 : ∀ j, j ≠ 0 → tak (mvs N d t (lst t i)) i j = mvs N d t (lst t i) j := fun j hj => by unfold tak; rw [up_ne _ _ hj]
  refine ⟨g, fun j => if j = 0 then M0 else M2 j, ⟨fun j hj => ?_, fun j hj key v hv => ?_, fun j hj1 hj key hv => ?_, fun key hv => ?_, fun key => ?_, fun j hj1 hj => ?_⟩⟩
  · by_cases e : j = 0
    · subst e; rw [if_pos rfl]; unfold tak; rw [up_same, mvs_zero]; exact h0
    · rw [if_neg e, z0 j e]; exact h.rep j (by omega) hj
  · by_cases e : j = 0
    · subst e; rw [if_pos rfl] at hv
      by_cases q : ∃ j, j < 8 ∧ Stands (t 0) key i j
      · rw [h1 key q] at hv; cases hv
      · rw [h2 key q] at hv; exact s.val 0 (by omega) key v hv
    · rw [if_neg e] at hv
      by_cases q : D2 key ∧ tgt N d (H key) = j
      · rw [h.new j (by omega) hj key q.1 q.2] at hv; exact s.val 0 (by omega) key v hv
      · rw [h.old j (by omega) hj key q] at hv; exact s.val j hj key v hv
  · rw [if_neg (by omega)] at hv
    by_cases q : D2 key ∧ tgt N d (H key) = j
    · exact q.2
    · rw [h.old j hj1 hj key q] at hv; exact s.tg j hj1 hj key hv
  · rw [if_pos rfl] at hv
    rw [if_neg (hpos key)]
    by_cases q : ∃ j, j < 8 ∧ Stands (t 0) key i j
    · rw [h1 key q] at hv; cases hv
    · rw [h2 key q] at hv
      rw [h.old _ (tgt_pos ..) (tgt_lt hN ..) key fun x => q ((hD' key).1 x.1)]
      exact s.one key hv
  · rw [if_pos rfl, if_neg (hpos key), s.un key]
    by_cases q : ∃ j, j < 8 ∧ Stands (t 0) key i j
    · have hDk := (hD' key).2 q
      obtain ⟨v, hv⟩ := hs0 key hDk
      rw [h1 key q, h.new _ (tgt_pos ..) (tgt_lt hN ..) key hDk rfl, hv]; rfl
    · rw [h2 key q, h.old _ (tgt_pos ..) (tgt_lt hN ..) key fun x => q ((hD' key).1 x.1)]
  · rw [z0 j (by omega)]; exact h.tb j hj1 hj
/-- so many groups of the old table have no entries -/
def Off (t : Tb) (c : Nat) : Prop := ∀ g, g < c → ∀ k, k < 8 → (t.gs g k).kind ≠ 3
theorem Off.next {l : List Sl} {i : Nat} (h : Off (t 0) i) : Off (tak (mvs N d t l) i 0) (i + 1) := fun g hg k hk => by
  unfold tak; rw [up_same, mvs_zero]
  by_cases e : g = i
  · subst e; exact (tk_off (t 0) g 8).1 k hk
  · rw [(tk_off (t 0) i 8).2 g e]; exact h g (by omega) k hk
theorem Off.none {M0 : Nat → Option Nat} {u : Tb} (h : Off u u.n) (hr : RepN H la u M0) : u.len = 0 := by
  have : M0 = fun _ => Option.none := by
    funext key
    refine (hr.rep.none_iff key).2 fun i k hs => h i hs.1 k hs.2.1 hs.2.2.1
  rw [hr.len, this, cntM_none]; rfl
theorem countP_or {p q : Nat → Bool} (h : ∀ k, p k = true → q k = false) : ∀ l : List Nat, l.countP p + l.countP q = l.countP fun k => p k || q k
  | [] => rfl
  | x :: l => by
    have := countP_or h l
    have hx := h x
    simp only [List.countP_cons]
    cases e1 : p x <;> cases e2 : q x <;> simp_all <;> omega
/-- all that is in them -/
theorem Sta.sum (hN : N = 2 ∨ N = 3) (s : Sta H la N d U t M) : (if N = 3 then (t 0).len + (t 1).len + (t 2).len else (t 0).len + (t 1).len) = ((List.range la).countP U : Nat) := by
  have hpos : ∀ key, 1 ≤ tgt N d (H key) := fun key => tgt_pos ..
  have hlt := fun key => tgt_lt hN d (H key)
  rcases hN with rfl | rfl
  · have hU : U = fun key => (M 0 key).isSome || (M 1 key).isSome := by
      funext key
      rw [s.un]
      rw [show tgt 2 d (H key) = 1 from rfl]
    rw [if_neg (by decide), (s.rep 0 (by omega)).len, (s.rep 1 (by omega)).len, hU, ← countP_or (fun k hk => by
      have := s.one k hk
      rw [show tgt 2 d (H k) = 1 from rfl] at this
      rw [this]; rfl)]
    unfold cntM; omega
  · have hU : U = fun key => (M 0 key).isSome || ((M 1 key).isSome || (M 2 key).isSome) := by
      funext key
      rw [s.un]
      have a := hpos key
      have b := hlt key
      have c : tgt 3 d (H key) = 1 ∨ tgt 3 d (H key) = 2 := by omega
      have n1 : (M 1 key).isSome = true → tgt 3 d (H key) = 1 := s.tg 1 (by omega) (by omega) key
      have n2 : (M 2 key).isSome = true → tgt 3 d (H key) = 2 := s.tg 2 (by omega) (by omega) key
      rcases c with c | c
      · rw [c]
        cases e : (M 2 key).isSome
        · simp
        · exact absurd (n2 e) (by omega)
      · rw [c]
        cases e : (M 1 key).isSome
        · simp
        · exact absurd (n1 e) (by omega)
    rw [if_pos rfl, (s.rep 0 (by omega)).len, (s.rep 1 (by omega)).len, (s.rep 2 (by omega)).len, hU, ← countP_or (q := fun key => (M 1 key).isSome || (M 2 key).isSome) (fun k hk => by
      have h1 := s.one k hk
      have a := hpos k
      have b := hlt k
      have c : tgt 3 d (H k) = 1 ∨ tgt 3 d (H k) = 2 := by omega
      rcases c with c | c
      · rw [c] at h1
        cases e : (M 2 k).isSome
        · rw [h1]; rfl
        · have := s.tg 2 (by omega) (by omega) k e; omega
      · rw [c] at h1
        cases e : (M 1 k).isSome
        · rw [h1]; rfl
        · have := s.tg 1 (by omega) (by omega) k e; omega), ← countP_or (p := fun key => (M 1 key).isSome) (fun k hk => by
      cases e : (M 2 k).isSome
      · rfl
      · have h1 := s.tg 1 (by omega) (by omega) k hk
        have h2 := s.tg 2 (by omega) (by omega) k e
        omega)]
    unfold cntM; omega
end
/-! ### how a case's tables come to be -/
/-- first entries are put into the old table, then, of keys that aren't there, into their targets -/
inductive Reach (hz : Nat → Nat) (la N d : Nat) (t0 : Nat → Tb) : Bool → Nat → (Nat → Tb) → Prop
  | new : Reach hz la N d t0 false 0 t0
  | old {n : Nat} {t : Nat → Tb} {key : Nat} : Reach hz la N d t0 false n t → key < la → Reach hz la N d t0 false (n + 1) (up t 0 ((t 0).puts key (hz key) (key + 5)))
  | turn {n : Nat} {t : Nat → Tb} : Reach hz la N d t0 false n t → Reach hz la N d t0 true n t
  | more {n : Nat} {t : Nat → Tb} {key : Nat} : Reach hz la N d t0 true n t → key < la → isThere (t 0) key (hz key) = false → Reach hz la N d t0 true (n + 1) (up t (tgt N d (hz key)) ((t (tgt N d (hz key))).puts key (hz key) (key + 5)))
  | skip {n : Nat} {t : Nat → Tb} : Reach hz la N d t0 true n t → Reach hz la N d t0 true (n + 1) t
theorem cntM_set {la key v : Nat} {M : Nat → Option Nat} (hk : key < la) : cntM la (set M key (some v)) ≤ cntM la M + 1 := by
  rw [cntM_some hk]; split <;> omega
/-- a key is put: the partial function with it, or, where there is no room, the same -/
theorem repN_put5 {H : Nat → Nat} {la : Nat} {t : Tb} {M : Nat → Option Nat} (h : RepN H la t M) {key : Nat} (hk : key < la) (hla : la ≤ 1000) (hh : H key < 18446744073709551616) :
    (RepN H la (t.puts key (H key) (key + 5)) (set M key (some (key + 5)))) ∨ (RepN H la (t.puts key (H key) (key + 5)) M) := by
  by_cases hc : (M key).isSome = true ∨ 1 ≤ t.left
  · exact .inl (repN_put h hk (by omega) hh (by omega) hc).1
  · have hs : (M key).isSome = false := by cases e : (M key).isSome; rfl; exact absurd (.inl e) hc
    have hl : t.left < 1 := by
      apply Classical.byContradiction; intro hn; exact hc (.inr (by omega))
    exact .inr (by rw [((h.rep.puts (v := key + 5) (by omega) hh (by omega)).2 hs hl).1]; exact h)
theorem set_val {M : Nat → Option Nat} {key : Nat} (h : ∀ k v, M k = some v → v = k + 5) : ∀ k v, set M key (some (key + 5)) k = some v → v = k + 5 := fun k v hv => by
  by_cases e : k = key
  · subst e; rw [set_same] at hv; injection hv with hv; exact hv.symm
  · rw [set_ne _ _ e] at hv; exact h k v hv
theorem Reach.first {hz : Nat → Nat} {la N d n : Nat} {t0 t : Nat → Tb} {ph : Bool} (hla : la ≤ 1000) (hH : ∀ key, key < la → hz key < 18446744073709551616) (h0 : RepN hz la (t0 0) fun _ => none) (h : Reach hz la N d t0 ph n t) : ph = false → ∃ M, RepN hz la (t 0) M ∧ (∀ k v, M k = some v → v = k + 5) ∧ cntM la M ≤ n ∧ ∀ i, i ≠ 0 → t i = t0 i := by
  induction h with
  | new => exact fun _ => ⟨_, h0, fun k v hv => (by cases hv), by rw [cntM_none]; omega, fun i hi => rfl⟩
  | @old n t key h hk ih =>
    intro _
    obtain ⟨M, a, b, c, e⟩ := ih rfl
    have hup : ∀ i, i ≠ 0 → up t 0 ((t 0).puts key (hz key) (key + 5)) i = t0 i := fun i hi => by rw [up_ne _ _ hi]; exact e i hi
    rcases repN_put5 a hk hla (hH key hk) with q | q
    · exact ⟨_, by rw [up_same]; exact q, set_val b, by have := cntM_set (M := M) (v := key + 5) hk; omega, hup⟩
    · exact ⟨_, by rw [up_same]; exact q, b, by omega, hup⟩
  | turn => exact fun h => by cases h
  | more => exact fun h => by cases h
  | skip => exact fun h => by cases h
theorem Reach.sta {hz : Nat → Nat} {la N d n : Nat} {t0 t : Nat → Tb} {ph : Bool} (hN : N = 2 ∨ N = 3) (hla : la ≤ 1000) (hH : ∀ key, key < la → hz key < 18446744073709551616) (h0 : ∀ i, i < N → RepN hz la (t0 i) fun _ => none) (hb : ∀ i, i < N → (t0 i).tombs = 0) (h : Reach hz la N d t0 ph n t) : ph = true → ∃ U M, Sta hz la N d U t M ∧ (List.range la).countP U ≤ n := by
  induction h with
  | new => exact fun h => by cases h
  | old => exact fun h => by cases h
  | @turn n t h ih =>
    intro _
    obtain ⟨M, a, b, c, e⟩ := Reach.first hla hH (h0 0 (by omega)) h rfl
    have hpos : ∀ key, tgt N d (hz key) ≠ 0 := fun key => by have := tgt_pos N d (hz key); omega
    refine ⟨fun key => (M key).isSome, fun i => if i = 0 then M else fun _ => none, ⟨fun i hi => ?_, fun i hi key v hv => ?_, fun i h1 hi key hv => ?_, fun key hv => ?_, fun key => ?_, fun i h1 hi => ?_⟩, c⟩
    · by_cases q : i = 0
      · subst q; rw [if_pos rfl]; exact a
      · rw [if_neg q, e i q]; exact h0 i hi
    · by_cases q : i = 0
      · subst q; rw [if_pos rfl] at hv; exact b key v hv
      · rw [if_neg q] at hv; cases hv
    · rw [if_neg (by omega)] at hv; cases hv
    · rw [if_neg (hpos key)]
    · rw [if_pos rfl, if_neg (hpos key)]; simp
    · rw [e i (by omega)]; exact hb i hi
  | @more n t key h hk hno ih =>
    intro _
    obtain ⟨U, M, s, c⟩ := ih rfl
    have p1 := tgt_pos N d (hz key)
    have p2 := tgt_lt hN d (hz key)
    have hM0 : M 0 key = none := by
      have := (s.rep 0 (by omega)).rep.there key
      rw [hno] at this
      cases e : M 0 key with
      | none => rfl
      | some v => rw [e] at this; cases this
    have tb : ∀ i, 1 ≤ i → i < N → (up t (tgt N d (hz key)) ((t (tgt N d (hz key))).puts key (hz key) (key + 5)) i).tombs = 0 := fun i h1 hi => by
      by_cases q : i = tgt N d (hz key)
      · rw [q, up_same]; exact puts_tombs (s.rep _ p2).rep.1.ok (s.tb _ p1 p2) (by omega) (hH key hk) (by omega)
      · rw [up_ne _ _ q]; exact s.tb i h1 hi
    rcases repN_put5 (s.rep _ p2) hk hla (hH key hk) with q | q
    · refine ⟨fun k => U k || decide (k = key), fun i => if i = tgt N d (hz key) then set (M i) key (some (key + 5)) else M i, ⟨fun i hi => ?_, fun i hi => ?_, fun i h1 hi k hv => ?_, fun k hv => ?_, fun k => ?_, tb⟩, ?_⟩
      · by_cases x : i = tgt N d (hz key)
        · subst x; rw [up_same, if_pos rfl]; exact q
        · rw [up_ne _ _ x, if_neg x]; exact s.rep i hi
      · by_cases x : i = tgt N d (hz key)
        · rw [if_pos x]; exact set_val (s.val i hi)
        · rw [if_neg x]; exact s.val i hi
      · by_cases x : i = tgt N d (hz key)
        · by_cases y : k = key
          · rw [y, x]
          · rw [if_pos x, set_ne _ _ y] at hv; exact s.tg i h1 hi k hv
        · rw [if_neg x] at hv; exact s.tg i h1 hi k hv
      · rw [if_neg (by omega)] at hv
        have y : k ≠ key := fun y => by rw [y, hM0] at hv; cases hv
        split
        · rw [set_ne _ _ y]; exact s.one k hv
        · exact s.one k hv
      · rw [if_neg (show ¬ 0 = tgt N d (hz key) by omega)]
        by_cases y : k = key
        · subst y; simp [set_same]
        · have := s.un k
          by_cases x : tgt N d (hz k) = tgt N d (hz key)
          · rw [if_pos x, set_ne _ _ y, ← this]; simp [y]
          · rw [if_neg x, ← this]; simp [y]
      · have : (List.range la).countP (fun k => U k || decide (k = key)) ≤ (List.range la).countP U + (List.range la).countP (fun k => decide (k = key)) := by
          have hcp : ∀ l : List Nat, l.countP (fun k => U k || decide (k = key)) ≤ l.countP U + l.countP (fun k => decide (k = key)) := fun l => by
            induction l with
            | nil => simp
            | cons x l ih =>
              simp only [List.countP_cons]
              cases U x <;> by_cases e : x = key <;> simp [e] <;> omega
          exact hcp _
        have h1 : (List.range la).countP (fun k => decide (k = key)) ≤ 1 := by
          have : (List.range la).countP (fun k => decide (k = key)) = (List.range la).count key := by
            unfold List.count; congr
          rw [this]; exact List.nodup_iff_count.1 List.nodup_range key
        omega
    · refine ⟨U, M, ⟨fun i hi => ?_, s.val, s.tg, s.one, s.un, tb⟩, by omega⟩
      by_cases x : i = tgt N d (hz key)
      · subst x; rw [up_same]; exact q
      · rw [up_ne _ _ x]; exact s.rep i hi
  | @skip n t h ih =>
    intro _
    obtain ⟨U, M, s, c⟩ := ih rfl
    exact ⟨U, M, s, by omega⟩
end Go.Proofs.YteedbnoefnlidaaGreatDoor.evac
