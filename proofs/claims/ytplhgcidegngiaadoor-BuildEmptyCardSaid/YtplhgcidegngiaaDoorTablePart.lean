/- table: a table is a partial function from keys to values. No function is walked here. -/
import Derived.Test.YtplhgcidegngiaaDoorTableMath
namespace Go.Proofs.YtplhgcidegngiaaDoor.table
open group probe swar
set_option linter.unusedSimpArgs false
set_option linter.unusedVariables false

/-- a key stands in a slot -/
def Stands (t : Tb) (key i k : Nat) : Prop := i < t.n ∧ k < 8 ∧ (t.gs i k).kind = 3 ∧ (t.gs i k).key = key
/-- each key of the hash H stands at one place at the most, and where a search comes to it -/
structure Inv (H : Nat → Nat) (t : Tb) : Prop where
  ok : t.Ok
  hash : ∀ key i k, Stands t key i k → (t.gs i k).hash = H key
  uniq : ∀ key i k j l, Stands t key i k → Stands t key j l → i = j ∧ k = l
  reach : ∀ key i k, Stands t key i k → ∃ pre, pre ++ [i] <+: path t (H key) ∧ ∀ j ∈ pre, opens (t.gs j) = false
/-- what a table answers: the value of each key -/
def Rep (H : Nat → Nat) (t : Tb) (M : Nat → Option Nat) : Prop := Inv H t ∧ ∀ key v, M key = some v ↔ ∃ i k, Stands t key i k ∧ (t.gs i k).val = v
theorem stands_hit {t : Tb} {H : Nat → Nat} (h : Inv H t) {key i k : Nat} (hs : Stands t key i k) : hit key (H key) (t.gs i) k = true := by
  unfold hit isH
  rw [hs.2.2.1, hs.2.2.2, h.hash _ _ _ hs]; simp
theorem hit_stands {t : Tb} {key h i k : Nat} (hi : i < t.n) (hk : k < 8) (hh : hit key h (t.gs i) k = true) : Stands t key i k := ⟨hi, hk, (hit_is hh).1, (hit_is hh).2.1⟩
/-- a search comes to where a key stands -/
theorem found {t : Tb} {H : Nat → Nat} (h : Inv H t) {key i k : Nat} (hs : Stands t key i k) : lastG t key (H key) = i ∧ slot t key (H key) = k := by
  obtain ⟨pre, hp, ho⟩ := h.reach _ _ _ hs
  have hfi : find key (H key) (t.gs i) = k := by
    rcases find_cases key (H key) (t.gs i) with ⟨_, hn⟩ | ⟨k', h1, h2, h3⟩
    · have := hn k hs.2.1; rw [stands_hit h hs] at this; cases this
    · rw [h2, (h.uniq _ _ _ _ _ hs (hit_stands hs.1 h1 h3)).2]
  have hno : ∀ j ∈ pre, stp t key (H key) j = false := fun j hj => by
    unfold stp
    rw [ho j hj, Bool.false_or, decide_eq_false_iff_not]
    intro hge
    rcases find_cases key (H key) (t.gs j) with ⟨e, _⟩ | ⟨k', h1, h2, h3⟩
    · omega
    · have hjn : j < t.n := path_lt h.ok.n (hp.subset (by simp [hj]))
      have e := (h.uniq _ _ _ _ _ hs (hit_stands hjn h1 h3)).1
      subst e
      exact prefix_new h.ok.n hj hp
  have hst : stp t key (H key) i = true := by unfold stp; rw [hfi]; simp
  have hsn : sn t key (H key) = pre ++ [i] := seen_at hst hp hno
  have hl : lastG t key (H key) = i := by unfold lastG; rw [hsn, lastOf_snoc]
  exact ⟨hl, by unfold slot; rw [hl, hfi]⟩
/-- it comes to no other one -/
theorem there_stands {t : Tb} {H : Nat → Nat} (h : Inv H t) {key : Nat} (ht : isThere t key (H key) = true) : ∃ k : Nat, slot t key (H key) = k ∧ Stands t key (lastG t key (H key)) k := by
  obtain ⟨k, h1, h2, h3⟩ := there_is ht
  exact ⟨k, h2, hit_stands (lastG_lt t key (H key) h.ok.n) h1 h3⟩
theorem Rep.none_iff {t : Tb} {H : Nat → Nat} {M : Nat → Option Nat} (h : Rep H t M) (key : Nat) : M key = none ↔ ∀ i k, ¬ Stands t key i k := by
  constructor
  · intro e i k hs
    have := (h.2 key (t.gs i k).val).2 ⟨i, k, hs, rfl⟩
    rw [e] at this; cases this
  · intro hn
    cases e : M key with
    | none => rfl
    | some v => obtain ⟨i, k, hs, _⟩ := (h.2 key v).1 e; exact absurd hs (hn i k)
theorem Rep.there {t : Tb} {H : Nat → Nat} {M : Nat → Option Nat} (h : Rep H t M) (key : Nat) : isThere t key (H key) = (M key).isSome := by
  cases e : M key with
  | none =>
    cases ht : isThere t key (H key) with
    | false => rfl
    | true => obtain ⟨k, _, hs⟩ := there_stands h.1 ht; exact absurd hs ((h.none_iff key).1 e _ _)
  | some v =>
    obtain ⟨i, k, hs, _⟩ := (h.2 key v).1 e
    have := (found h.1 hs).2
    unfold isThere; rw [this]; simp
theorem Rep.ent {t : Tb} {H : Nat → Nat} {M : Nat → Option Nat} (h : Rep H t M) {key v : Nat} (e : M key = some v) : entOf t key (H key) = ⟨3, key, v, H key⟩ := by
  obtain ⟨i, k, hs, hv⟩ := (h.2 key v).1 e
  obtain ⟨h1, h2⟩ := found h.1 hs
  have ht : isThere t key (H key) = true := by unfold isThere; rw [h2]; simp
  unfold entOf
  rw [if_pos ht, h1, h2]
  have hh := h.1.hash _ _ _ hs
  obtain ⟨_, _, h3, h4⟩ := hs
  show t.gs i ((k : Int).toNat) = _
  rw [show ((k : Int).toNat) = k from rfl]
  cases hx : t.gs i k with
  | mk a b c d =>
    rw [hx] at h3 h4 hv hh
    simp at h3 h4 hv hh
    subst h3; subst h4; subst hv; subst hh; rfl
theorem Rep.ent_none {t : Tb} {H : Nat → Nat} {M : Nat → Option Nat} (h : Rep H t M) {key : Nat} (e : M key = none) : entOf t key (H key) = ⟨1, 0, 0, 0⟩ := by
  have ht := h.there key
  rw [e] at ht
  unfold entOf; rw [ht]; rfl
/-! ### a new table -/
theorem Rep.new {n : Nat} (hn : okN n) (H : Nat → Nat) : Rep H (Tb.new n) fun _ => none := by
  have ns : ∀ key i k, ¬ Stands (Tb.new n) key i k := fun key i k hs => by have := hs.2.2.1; revert this; show (Sl.empty).kind = 3 → False; decide
  refine ⟨⟨.new hn, fun key i k hs => absurd hs (ns _ _ _), fun key i k j l hs => absurd hs (ns _ _ _), fun key i k hs => absurd hs (ns _ _ _)⟩, fun key v => ⟨fun e => (by cases e), fun ⟨i, k, hs, _⟩ => absurd hs (ns _ _ _)⟩⟩
/-! ### a slot is changed: which keys stand -/
theorem stands_upd {t : Tb} {a k : Nat} {s : Sl} {len tombs : Int} {key i l : Nat} (hne : ¬ (i = a ∧ l = k)) : Stands ⟨t.n, upd t.gs a ((t.gs a).put k s), len, tombs⟩ key i l ↔ Stands t key i l := by
  have e : (upd t.gs a ((t.gs a).put k s)) i l = t.gs i l := by
    by_cases h : i = a
    · subst h; rw [upd_same]; exact put_ne _ _ fun e => hne ⟨rfl, e⟩
    · rw [upd_ne _ _ h]
  unfold Stands
  show (_ ∧ _ ∧ ((upd t.gs a ((t.gs a).put k s)) i l).kind = 3 ∧ ((upd t.gs a ((t.gs a).put k s)) i l).key = key) ↔ _
  rw [e]
theorem slot_upd {gs : Nat → Gp} {a k : Nat} {s : Sl} : (upd gs a ((gs a).put k s)) a k = s := by rw [upd_same, put_same]
theorem slot_other {gs : Nat → Gp} {a k i l : Nat} {s : Sl} (hne : ¬ (i = a ∧ l = k)) : (upd gs a ((gs a).put k s)) i l = gs i l := by
  by_cases h : i = a
  · subst h; rw [upd_same]; exact put_ne _ _ fun e => hne ⟨rfl, e⟩
  · rw [upd_ne _ _ h]
theorem opens_upd {gs : Nat → Gp} {a k : Nat} {s : Sl} (hs : opens (gs a) = false → s.kind ≠ 1) {j : Nat} (h : opens (gs j) = false) : opens ((upd gs a ((gs a).put k s)) j) = false := by
  by_cases e : j = a
  · subst e; rw [upd_same]; exact opens_put h (hs h)
  · rw [upd_ne _ _ e]; exact h
def set (M : Nat → Option Nat) (key : Nat) (v : Option Nat) : Nat → Option Nat := fun k => if k = key then v else M k
theorem set_same (M : Nat → Option Nat) (key : Nat) (v : Option Nat) : set M key v key = v := if_pos rfl
theorem set_ne (M : Nat → Option Nat) {key k : Nat} (v : Option Nat) (h : k ≠ key) : set M key v k = M k := if_neg h
/-- Replace -/
theorem Rep.val {t : Tb} {H : Nat → Nat} {M : Nat → Option Nat} (h : Rep H t M) {key i k v : Nat} (hs : Stands t key i k) (hv : v < 18446744073709551616) : Rep H (t.val i k v) (set M key (some v)) := by
  have sx : ∀ key' i' l, Stands (t.val i k v) key' i' l ↔ Stands t key' i' l := fun key' i' l => by
    by_cases hne : i' = i ∧ l = k
    · obtain ⟨rfl, rfl⟩ := hne
      unfold Stands Tb.val
      simp only [slot_upd]
    · exact stands_upd hne
  have hsh : ∀ i' l, ((t.val i k v).gs i' l).hash = (t.gs i' l).hash := fun i' l => by
    by_cases hne : i' = i ∧ l = k
    · obtain ⟨rfl, rfl⟩ := hne
      show ((upd t.gs i' ((t.gs i').put l { t.gs i' l with val := v })) i' l).hash = _
      rw [slot_upd]
    · show ((upd t.gs i ((t.gs i).put k { t.gs i k with val := v })) i' l).hash = _
      rw [slot_other hne]
  refine ⟨⟨h.1.ok.val hs.1 hs.2.1 hs.2.2.1 hv, fun key' i' l hs' => ?_, fun key' i' l j l' h1 h2 => h.1.uniq _ _ _ _ _ ((sx _ _ _).1 h1) ((sx _ _ _).1 h2), fun key' i' l hs' => ?_⟩, fun key' v' => ?_⟩
  · rw [hsh]; exact h.1.hash _ _ _ ((sx _ _ _).1 hs')
  · obtain ⟨pre, h1, h2⟩ := h.1.reach _ _ _ ((sx _ _ _).1 hs')
    exact ⟨pre, h1, fun j hj => opens_upd (fun _ => by show (t.gs i k).kind ≠ 1; rw [hs.2.2.1]; decide) (h2 j hj)⟩
  · by_cases e : key' = key
    · subst e
      rw [set_same]
      constructor
      · intro e'
        cases e'
        refine ⟨i, k, (sx _ _ _).2 hs, ?_⟩
        show ((upd t.gs i ((t.gs i).put k { t.gs i k with val := v })) i k).val = v
        rw [slot_upd]
      · rintro ⟨i', l, hs', hv'⟩
        obtain ⟨rfl, rfl⟩ := h.1.uniq _ _ _ _ _ hs ((sx _ _ _).1 hs')
        rw [← hv']
        show some v = some ((upd t.gs i ((t.gs i).put k { t.gs i k with val := v })) i k).val
        rw [slot_upd]
    · rw [set_ne _ _ e, h.2]
      have hv2 : ∀ i' l, Stands t key' i' l → ((t.val i k v).gs i' l).val = (t.gs i' l).val := fun i' l hs' => by
        have hne : ¬ (i' = i ∧ l = k) := by
          rintro ⟨rfl, rfl⟩; exact e (hs'.2.2.2.symm.trans hs.2.2.2)
        show ((upd t.gs i ((t.gs i).put k { t.gs i k with val := v })) i' l).val = _
        rw [slot_other hne]
      constructor
      · rintro ⟨i', l, hs', hv'⟩; exact ⟨i', l, (sx _ _ _).2 hs', by rw [hv2 _ _ hs', hv']⟩
      · rintro ⟨i', l, hs', hv'⟩; exact ⟨i', l, (sx _ _ _).1 hs', by rw [← hv2 _ _ ((sx _ _ _).1 hs'), hv']⟩
/-- Remove -/
theorem Rep.era {t : Tb} {H : Nat → Nat} {M : Nat → Option Nat} (h : Rep H t M) {key i k : Nat} (hs : Stands t key i k) : Rep H (t.era i k) (set M key none) := by
  have en : (erased (t.gs i)).kind ≠ 3 := by unfold erased; split <;> decide
  have sx : ∀ key' i' l, Stands (t.era i k) key' i' l ↔ Stands t key' i' l ∧ ¬ (i' = i ∧ l = k) := fun key' i' l => by
    by_cases hne : i' = i ∧ l = k
    · obtain ⟨rfl, rfl⟩ := hne
      refine ⟨fun hs' => ?_, fun h' => absurd ⟨rfl, rfl⟩ h'.2⟩
      have h3 := hs'.2.2.1
      have e : (t.era i' l).gs i' l = erased (t.gs i') := slot_upd
      rw [e] at h3; exact absurd h3 en
    · exact ⟨fun h' => ⟨(stands_upd hne).1 h', hne⟩, fun h' => (stands_upd hne).2 h'.1⟩
  have ex : ∀ i' l, ¬ (i' = i ∧ l = k) → (t.era i k).gs i' l = t.gs i' l := fun i' l hne => slot_other hne
  refine ⟨⟨h.1.ok.era hs.1 hs.2.1 hs.2.2.1, fun key' i' l hs' => ?_, fun key' i' l j l' h1 h2 => h.1.uniq _ _ _ _ _ ((sx _ _ _).1 h1).1 ((sx _ _ _).1 h2).1, fun key' i' l hs' => ?_⟩, fun key' v' => ?_⟩
  · obtain ⟨h1, h2⟩ := (sx _ _ _).1 hs'
    rw [ex _ _ h2]; exact h.1.hash _ _ _ h1
  · obtain ⟨h1, h2⟩ := (sx _ _ _).1 hs'
    obtain ⟨pre, h3, h4⟩ := h.1.reach _ _ _ h1
    exact ⟨pre, h3, fun j hj => opens_upd (fun ho => by unfold erased; rw [ho]; decide) (h4 j hj)⟩
  · by_cases e : key' = key
    · subst e
      rw [set_same]
      refine ⟨fun e' => (by cases e'), ?_⟩
      rintro ⟨i', l, hs', _⟩
      obtain ⟨h1, h2⟩ := (sx _ _ _).1 hs'
      obtain ⟨rfl, rfl⟩ := h.1.uniq _ _ _ _ _ hs h1
      exact absurd ⟨rfl, rfl⟩ h2
    · rw [set_ne _ _ e, h.2]
      constructor
      · rintro ⟨i', l, hs', hv'⟩
        have hne : ¬ (i' = i ∧ l = k) := by
          rintro ⟨rfl, rfl⟩; exact e (hs'.2.2.2.symm.trans hs.2.2.2)
        exact ⟨i', l, (sx _ _ _).2 ⟨hs', hne⟩, by rw [ex _ _ hne, hv']⟩
      · rintro ⟨i', l, hs', hv'⟩
        obtain ⟨h1, h2⟩ := (sx _ _ _).1 hs'
        exact ⟨i', l, h1, by rw [← ex _ _ h2, hv']⟩
/-- Place -/
theorem Rep.put {t : Tb} {H : Nat → Nat} {M : Nat → Option Nat} (h : Rep H t M) {key b k v : Nat} (hk : k < 8) (h3 : (t.gs b k).kind ≠ 3) (hb : b < t.n) (hM : M key = none) (hl : 1 ≤ t.left)
    (hr : ∃ pre, pre ++ [b] <+: path t (H key) ∧ ∀ j ∈ pre, opens (t.gs j) = false)
    (hkey : key < 18446744073709551616) (hh : H key < 18446744073709551616) (hv : v < 18446744073709551616) : Rep H (t.put b k ⟨3, key, v, H key⟩) (set M key (some v)) := by
  have nk := (h.none_iff key).1 hM
  have ek : (t.put b k ⟨3, key, v, H key⟩).gs b k = ⟨3, key, v, H key⟩ := slot_upd
  have sk : Stands (t.put b k ⟨3, key, v, H key⟩) key b k := ⟨hb, hk, by rw [ek], by rw [ek]⟩
  have sx : ∀ key' i' l, Stands (t.put b k ⟨3, key, v, H key⟩) key' i' l ↔ (Stands t key' i' l ∧ ¬ (i' = b ∧ l = k)) ∨ (i' = b ∧ l = k ∧ key' = key) := fun key' i' l => by
    by_cases hne : i' = b ∧ l = k
    · obtain ⟨rfl, rfl⟩ := hne
      refine ⟨fun hs' => .inr ⟨rfl, rfl, ?_⟩, fun h' => ?_⟩
      · have := hs'.2.2.2; rw [ek] at this; exact this.symm
      · rcases h' with h' | ⟨_, _, rfl⟩
        · exact absurd ⟨rfl, rfl⟩ h'.2
        · exact sk
    · refine ⟨fun h' => .inl ⟨(stands_upd hne).1 h', hne⟩, fun h' => ?_⟩
      rcases h' with h' | ⟨h1, h2, _⟩
      · exact (stands_upd hne).2 h'.1
      · exact absurd ⟨h1, h2⟩ hne
  have ex : ∀ i' l, ¬ (i' = b ∧ l = k) → (t.put b k ⟨3, key, v, H key⟩).gs i' l = t.gs i' l := fun i' l hne => slot_other hne
  have op : ∀ pre h, (pre ++ [h] <+: path t (H key) → True) := fun _ _ _ => trivial
  refine ⟨⟨h.1.ok.put hb hk h3 (.of_full hkey hv hh) rfl hl, fun key' i' l hs' => ?_, fun key' i' l j l' h1 h2 => ?_, fun key' i' l hs' => ?_⟩, fun key' v' => ?_⟩
  · rcases (sx _ _ _).1 hs' with ⟨h1, h2⟩ | ⟨rfl, rfl, rfl⟩
    · rw [ex _ _ h2]; exact h.1.hash _ _ _ h1
    · rw [ek]
  · rcases (sx _ _ _).1 h1 with ⟨a1, a2⟩ | ⟨rfl, rfl, rfl⟩
    · rcases (sx _ _ _).1 h2 with ⟨b1, b2⟩ | ⟨rfl, rfl, rfl⟩
      · exact h.1.uniq _ _ _ _ _ a1 b1
      · exact absurd a1 (nk _ _)
    · rcases (sx _ _ _).1 h2 with ⟨b1, b2⟩ | ⟨rfl, rfl, _⟩
      · exact absurd b1 (nk _ _)
      · exact ⟨rfl, rfl⟩
  · rcases (sx _ _ _).1 hs' with ⟨h1, h2⟩ | ⟨rfl, rfl, rfl⟩
    · obtain ⟨pre, p1, p2⟩ := h.1.reach _ _ _ h1
      exact ⟨pre, p1, fun j hj => opens_upd (fun _ => by show (3 : Nat) ≠ 1; decide) (p2 j hj)⟩
    · obtain ⟨pre, p1, p2⟩ := hr
      exact ⟨pre, p1, fun j hj => opens_upd (fun _ => by show (3 : Nat) ≠ 1; decide) (p2 j hj)⟩
  · by_cases e : key' = key
    · subst e
      rw [set_same]
      constructor
      · intro e'
        cases e'
        exact ⟨b, k, sk, by rw [ek]⟩
      · rintro ⟨i', l, hs', hv'⟩
        rcases (sx _ _ _).1 hs' with ⟨h1, h2⟩ | ⟨rfl, rfl, _⟩
        · exact absurd h1 (nk _ _)
        · rw [ek] at hv'; rw [← hv']
    · rw [set_ne _ _ e, h.2]
      constructor
      · rintro ⟨i', l, hs', hv'⟩
        have hne : ¬ (i' = b ∧ l = k) := by
          rintro ⟨rfl, rfl⟩; exact h3 hs'.2.2.1
        exact ⟨i', l, (sx _ _ _).2 (.inl ⟨hs', hne⟩), by rw [ex _ _ hne, hv']⟩
      · rintro ⟨i', l, hs', hv'⟩
        rcases (sx _ _ _).1 hs' with ⟨h1, h2⟩ | ⟨_, _, h4⟩
        · exact ⟨i', l, h1, by rw [← ex _ _ h2, hv']⟩
        · exact absurd h4 e
/-! ### what is asked of a search's room -/
theorem find_split {f : Nat → Bool} : ∀ {l : List Nat} {b : Nat}, l.find? f = some b → ∃ pre r, l = pre ++ b :: r ∧ f b = true ∧ ∀ j ∈ pre, f j = false
  | [], b, h => by cases h
  | i :: l, b, h => by
    cases hf : f i
    · rw [List.find?_cons_of_neg (by rw [hf]; decide)] at h
      obtain ⟨pre, r, h1, h2, h3⟩ := find_split h
      refine ⟨i :: pre, r, by rw [h1]; rfl, h2, fun j hj => ?_⟩
      rcases List.mem_cons.1 hj with rfl | hj
      · exact hf
      · exact h3 j hj
    · rw [List.find?_cons_of_pos hf] at h
      cases h
      exact ⟨[], l, rfl, hf, fun j hj => by cases hj⟩
theorem open_free {t : Tb} {i : Nat} (h : free t i = false) : opens (t.gs i) = false := by
  cases ho : opens (t.gs i) with
  | false => rfl
  | true =>
    obtain ⟨k, hk, h1⟩ := (opens_iff _).1 ho
    unfold free at h
    rw [decide_eq_false_iff_not] at h
    rcases least_cases (t.gs i) with ⟨_, e⟩ | ⟨j, _, h2, _⟩
    · have := e k hk; omega
    · omega
/-- the first free group of the walk, if there is one among those that were looked at -/
theorem room_reach {t : Tb} {key h : Nat} (hn : okN t.n) (hf : 0 ≤ least (t.gs (roomG t key h))) : ∃ pre, pre ++ [roomG t key h] <+: path t h ∧ ∀ j ∈ pre, opens (t.gs j) = false := by
  have hp := sn_prefix t key h
  cases e : (sn t key h).find? (free t) with
  | some b =>
    obtain ⟨pre, r, h1, h2, h3⟩ := find_split e
    have hb : roomG t key h = b := by unfold roomG roomOf; rw [e]
    rw [hb]
    refine ⟨pre, ?_, fun j hj => open_free (h3 j hj)⟩
    refine List.IsPrefix.trans ?_ hp
    rw [h1]; exact ⟨r, by simp⟩
  | none =>
    have hb : roomG t key h = lastOf (sn t key h) := by unfold roomG roomOf; rw [e]
    have h1 := List.find?_eq_none.1 e _ (lastOf_mem (sn_ne t key h hn))
    rw [← hb] at h1
    unfold free at h1
    simp at h1
    omega
theorem pigeon : ∀ (n : Nat) (l : List Nat), l.Nodup → (∀ x ∈ l, x < n) → l.length ≤ n
  | 0, l, _, h => by
    cases l with
    | nil => simp
    | cons x l => have := h x (by simp); omega
  | n + 1, l, hd, h => by
    have h1 := pigeon n (l.erase n) (hd.erase n) fun x hx => by
      have h2 := h x (List.mem_of_mem_erase hx)
      have h3 : x ≠ n := fun e => by subst e; exact hd.not_mem_erase hx
      omega
    have := List.length_erase_le (a := n) (l := l)
    by_cases hm : n ∈ l
    · rw [List.length_erase_of_mem hm] at h1; omega
    · rw [List.erase_of_not_mem hm] at h1; omega
theorem path_mem {t : Tb} {h i : Nat} (hn : okN t.n) (hi : i < t.n) : i ∈ path t h := by
  apply Classical.byContradiction
  intro hx
  have h1 := pigeon t.n (i :: path t h) (List.nodup_cons.2 ⟨hx, wl_nodup _ _ hn⟩) fun x hx => by
    rcases List.mem_cons.1 hx with rfl | hx
    · exact hi
    · exact path_lt hn hx
  rw [List.length_cons, show (path t h).length = t.n from wl_length _ _] at h1
  omega
/-- while something is left, a search for what isn't there comes to a free slot -/
theorem room_left {t : Tb} {key h : Nat} (ho : t.Ok) (hs : isThere t key h = false) (hl : 1 ≤ t.left) : roomE t key h = 0 := by
  unfold roomE
  rw [if_neg (by omega)]
  split
  · next hlt =>
    exfalso
    have hf : ∀ j ∈ sn t key h, free t j = false := fun j hj => by
      cases e : (sn t key h).find? (free t) with
      | some b =>
        have hb : roomG t key h = b := by unfold roomG roomOf; rw [e]
        have := List.find?_some e
        unfold free at this
        rw [decide_eq_true_eq, ← hb] at this
        omega
      | none => simpa using List.find?_eq_none.1 e j hj
    have hno : ∀ j ∈ sn t key h, stp t key h j = false := fun j hj => by
      have h1 := none_seen (t := t) (key := key) (h := h) (by rw [slot_neg hs]; decide) j hj
      unfold stp
      rw [open_free (hf j hj), Bool.false_or, decide_eq_false_iff_not]; omega
    rcases seen_is (stp t key h) (path t h) with ⟨h1, _⟩ | ⟨pre, x, h1, _, _, h4⟩
    · obtain ⟨i, hi, hop⟩ := some_open ho
      have hm : i ∈ sn t key h := by show i ∈ seen (stp t key h) (path t h); rw [h1]; exact path_mem ho.n hi
      have := hno i hm
      unfold stp at this
      rw [hop] at this; cases this
    · have := hno x (by show x ∈ seen (stp t key h) (path t h); rw [h1]; simp)
      rw [h4] at this; cases this
  · rfl
/-! ### Put, Delete -/
theorem Rep.replace {t : Tb} {H : Nat → Nat} {M : Nat → Option Nat} (h : Rep H t M) {key v : Nat} (hM : (M key).isSome = true) (hv : v < 18446744073709551616) : Rep H (t.replace key (H key) v) (set M key (some v)) := by
  rw [← h.there] at hM
  obtain ⟨k, h1, h2⟩ := there_stands h.1 hM
  rw [replace_at h1]
  exact h.val h2 hv
theorem Rep.remove {t : Tb} {H : Nat → Nat} {M : Nat → Option Nat} (h : Rep H t M) (key : Nat) : Rep H (t.remove key (H key)) (set M key none) := by
  cases hM : M key with
  | none =>
    have e : t.remove key (H key) = t := by
      have := h.there key
      rw [hM] at this
      unfold Tb.remove; rw [slot_neg this, if_neg (by decide)]
    rw [e]
    have e2 : set M key none = M := by
      funext k; unfold set; split
      · next e => rw [e, hM]
      · rfl
    rw [e2]; exact h
  | some v =>
    have ht := h.there key
    rw [hM] at ht
    obtain ⟨k, h1, h2⟩ := there_stands h.1 ht
    rw [remove_at h1]
    exact h.era h2
theorem Rep.place {t : Tb} {H : Nat → Nat} {M : Nat → Option Nat} (h : Rep H t M) {key v : Nat} (hM : M key = none) (hl : 1 ≤ t.left)
    (hkey : key < 18446744073709551616) (hh : H key < 18446744073709551616) (hv : v < 18446744073709551616) : Rep H (t.place key (H key) v) (set M key (some v)) := by
  have ht := h.there key
  rw [hM] at ht
  have he := room_left h.1.ok ht hl
  obtain ⟨_, k, h2, h3, h4⟩ := room_is he
  rw [place_at he h3]
  exact h.put h2 h4 (roomG_lt t key _ h.1.ok.n) hM hl (room_reach h.1.ok.n (by omega)) hkey hh hv
/-- Put, in all its cases -/
theorem Rep.puts {t : Tb} {H : Nat → Nat} {M : Nat → Option Nat} (h : Rep H t M) {key v : Nat} (hkey : key < 18446744073709551616) (hh : H key < 18446744073709551616) (hv : v < 18446744073709551616) :
    ((M key).isSome = true ∨ 1 ≤ t.left → Rep H (t.puts key (H key) v) (set M key (some v)) ∧ putE' t key (H key) = 0 ∧ putB' t key (H key) = !(M key).isSome ∧ (t.puts key (H key) v).len = t.len + (if (M key).isSome = true then 0 else 1) ∧ (t.puts key (H key) v).left ≤ t.left) ∧
    ((M key).isSome = false → t.left < 1 → t.puts key (H key) v = t ∧ putE' t key (H key) = 2 ∧ putB' t key (H key) = false) := by
  have ht := h.there key
  constructor
  · intro hc
    cases hM : M key with
    | some u =>
      rw [hM] at ht
      have hr := h.replace (key := key) (v := v) (by rw [hM]; rfl) hv
      have e : t.puts key (H key) v = t.replace key (H key) v := by unfold Tb.puts; rw [ht]; rfl
      rw [e]
      refine ⟨hr, by unfold putE'; rw [ht]; rfl, by unfold putB'; rw [ht]; rfl, by rw [replace_len]; simp, ?_⟩
      unfold Tb.replace; split
      · exact Int.le_refl _
      · exact Int.le_refl _
    | none =>
      rw [hM] at ht hc
      have hl : 1 ≤ t.left := by rcases hc with hc | hc; cases hc; exact hc
      have ht' : isThere t key (H key) = false := ht
      have he := room_left h.1.ok ht' hl
      have hr := h.place (key := key) (v := v) hM hl hkey hh hv
      have e : t.puts key (H key) v = t.place key (H key) v := by unfold Tb.puts; rw [ht']; rfl
      rw [e]
      obtain ⟨_, k, h2, h3, h4⟩ := room_is he
      refine ⟨hr, by unfold putE'; rw [ht', he]; rfl, by unfold putB'; rw [ht', he]; rfl, by rw [place_at he h3]; rfl, ?_⟩
      rw [place_at he h3]
      unfold Tb.left Tb.put
      simp only
      split <;> omega
  · intro hM hl
    rw [hM] at ht
    have he : roomE t key (H key) = 2 := by unfold roomE; rw [if_pos hl]
    refine ⟨by unfold Tb.puts; rw [ht, if_neg (by decide), place_no (by rw [he]; decide)], by unfold putE'; rw [ht, he]; rfl, by unfold putB'; rw [ht, he]; rfl⟩
theorem Rep.remove_len {t : Tb} {H : Nat → Nat} {M : Nat → Option Nat} (h : Rep H t M) (key : Nat) : (t.remove key (H key)).len = t.len - (if (M key).isSome = true then 1 else 0) := by
  have ht := h.there key
  cases hM : (M key).isSome
  · rw [hM] at ht
    unfold Tb.remove; rw [slot_neg ht, if_neg (by decide)]; simp
  · rw [hM] at ht
    obtain ⟨k, h1, h2⟩ := there_stands h.1 ht
    rw [remove_at h1]; rfl
end Go.Proofs.YtplhgcidegngiaaDoor.table
