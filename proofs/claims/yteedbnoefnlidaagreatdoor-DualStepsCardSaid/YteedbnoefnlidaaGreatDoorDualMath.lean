/- dual: where a key is found, what a Put and a Delete come to: the plain mathematics. No function is walked here. -/
import Derived.Test.YteedbnoefnlidaaGreatDoorDualInv
namespace Go.Proofs.YteedbnoefnlidaaGreatDoor.dual
open group probe swar table evac
set_option linter.unusedSimpArgs false
set_option linter.unusedVariables false

/-- the tables in which a key is looked for, in order -/
def js (rd : Bool) (N d h : Nat) : List Nat := if rd = true then [tgt N d h, 0] else [0]
theorem js_le (rd : Bool) (N d h : Nat) : 1 ≤ (js rd N d h).length ∧ (js rd N d h).length ≤ 2 := by cases rd <;> simp [js]
/-- the first of the tables that has a key -/
def fnd (t : Nat → Tb) (key h : Nat) : List Nat → Option Nat
  | [] => none
  | i :: l => if isThere (t i) key h = true then some i else fnd t key h l
/-- how many groups are looked at for it -/
def fndK (t : Nat → Tb) (key h : Nat) : List Nat → Nat
  | [] => 0
  | i :: l => looks (t i) key h + if isThere (t i) key h = true then 0 else fndK t key h l
/-- its entry -/
def fndE (t : Nat → Tb) (key h : Nat) (l : List Nat) : Sl := match fnd t key h l with
  | some i => entOf (t i) key h
  | none => ⟨1, 0, 0, 0⟩
section
variable {t : Nat → Tb} {key h : Nat}
theorem fnd_pre : ∀ {pre : List Nat}, (∀ i ∈ pre, isThere (t i) key h = false) → ∀ l, fnd t key h (pre ++ l) = fnd t key h l ∧ fndK t key h (pre ++ l) = fndK t key h pre + fndK t key h l
  | [], _, l => ⟨rfl, by simp [fndK]⟩
  | i :: pre, hp, l => by
    obtain ⟨a, b⟩ := fnd_pre (pre := pre) (fun j hj => hp j (List.mem_cons_of_mem _ hj)) l
    have hi := hp i List.mem_cons_self
    refine ⟨?_, ?_⟩
    · show (if isThere (t i) key h = true then some i else fnd t key h (pre ++ l)) = _
      rw [if_neg (by rw [hi]; decide)]; exact a
    · show looks (t i) key h + (if isThere (t i) key h = true then 0 else fndK t key h (pre ++ l)) = looks (t i) key h + (if isThere (t i) key h = true then 0 else fndK t key h pre) + _
      rw [if_neg (by rw [hi]; decide), if_neg (by rw [hi]; decide), b]; omega
theorem fndK_one (i : Nat) : fndK t key h [i] = looks (t i) key h := by unfold fndK; simp [fndK]
/-- behind some tables that don't have it, one that does -/
theorem fnd_at {l : List Nat} {j : Nat} (hj : j < l.length) (hp : ∀ i ∈ l.take j, isThere (t i) key h = false) (ht : isThere (t l[j]) key h = true) : fnd t key h l = some l[j] ∧ fndK t key h l = fndK t key h (l.take j) + looks (t l[j]) key h := by
  have e : l = l.take j ++ (l[j] :: l.drop (j + 1)) := by rw [← List.drop_eq_getElem_cons hj, List.take_append_drop]
  obtain ⟨a, b⟩ := fnd_pre hp (l[j] :: l.drop (j + 1))
  rw [← e] at a b
  refine ⟨?_, ?_⟩
  · rw [a]; unfold fnd; rw [if_pos ht]
  · rw [b]; congr 1; conv => lhs; unfold fndK
    rw [if_pos ht]; rfl
theorem fnd_off {l : List Nat} (hp : ∀ i ∈ l, isThere (t i) key h = false) : fnd t key h l = none := by
  have := (fnd_pre hp []).1
  rw [List.append_nil] at this
  rw [this]; rfl
theorem fnd_none {l : List Nat} (hf : fnd t key h l = none) : ∀ i ∈ l, isThere (t i) key h = false := by
  induction l with
  | nil => intro i hi; cases hi
  | cons x l ih =>
    unfold fnd at hf
    split at hf
    · cases hf
    · next hx =>
      intro i hi
      rcases List.mem_cons.1 hi with rfl | hi
      · simpa using hx
      · exact ih hf i hi
theorem fnd_some {l : List Nat} {i : Nat} (hf : fnd t key h l = some i) : i ∈ l ∧ isThere (t i) key h = true := by
  induction l with
  | nil => cases hf
  | cons x l ih =>
    unfold fnd at hf
    split at hf
    · next hx =>
      injection hf with hf
      subst hf
      exact ⟨List.mem_cons_self, hx⟩
    · obtain ⟨a, b⟩ := ih hf
      exact ⟨List.mem_cons_of_mem _ a, b⟩
theorem fndK_snoc {l : List Nat} {j : Nat} (hj : j < l.length) (hp : ∀ i ∈ l.take j, isThere (t i) key h = false) : fndK t key h (l.take (j + 1)) = fndK t key h (l.take j) + looks (t l[j]) key h := by
  rw [take_next l hj, (fnd_pre hp [l[j]]).2, fndK_one]
theorem off_snoc {l : List Nat} {j : Nat} (hj : j < l.length) (hp : ∀ i ∈ l.take j, isThere (t i) key h = false) (ht : isThere (t l[j]) key h = false) : ∀ i ∈ l.take (j + 1), isThere (t i) key h = false := fun i hi => by
  rw [take_next l hj] at hi
  rcases List.mem_append.1 hi with hi | hi
  · exact hp i hi
  · obtain rfl : i = l[j] := by simpa using hi
    exact ht
end
/-! ### Put, Delete -/
/-- the table that a Put changes -/
def dI (t : Nat → Tb) (key h : Nat) (l : List Nat) : Nat := (fnd t key h l).getD (l.headD 0)
def dT (t : Nat → Tb) (key h v : Nat) (l : List Nat) (more : Bool) : Nat → Tb := if ((fnd t key h l).isSome || more) = true then up t (dI t key h l) ((t (dI t key h l)).puts key h v) else t
def dB (t : Nat → Tb) (key h : Nat) (l : List Nat) (more : Bool) : Bool := !(fnd t key h l).isSome && more && putB' (t (dI t key h l)) key h
def dE (t : Nat → Tb) (key h : Nat) (l : List Nat) (more : Bool) : Nat := if (fnd t key h l).isSome = true then 0 else if more = true then putE' (t (dI t key h l)) key h else 2
def eT (t : Nat → Tb) (key h : Nat) (l : List Nat) : Nat → Tb := match fnd t key h l with
  | some i => up t i ((t i).remove key h)
  | none => t
end Go.Proofs.YteedbnoefnlidaaGreatDoor.dual
namespace Go.Proofs.YteedbnoefnlidaaGreatDoor.evac
open group probe swar table dual
set_option linter.unusedSimpArgs false
set_option linter.unusedVariables false
section
variable {H : Nat → Nat} {la N d c n1 : Nat} {F : Nat → Option Nat} {t : Nat → Tb} {M : Nat → Nat → Option Nat} {rd : Bool}
theorem stands_new {n key i k : Nat} : ¬ Stands (Tb.new n) key i k := fun h => by
  obtain ⟨_, _, h3, _⟩ := h
  revert h3
  show (Gp.new k).kind = 3 → False
  intro h3
  exact absurd (show (1 : Nat) = 3 from h3) (by decide)
theorem Du.bare (s : Du H la N d F t M c) (hN : N = 2 ∨ N = 3) (ht : ∀ j, 1 ≤ j → t j = Tb.new n1) (key : Nat) : M (tgt N d (H key)) key = none := by
  have p1 := tgt_pos N d (H key)
  have p2 := tgt_lt hN d (H key)
  refine ((s.rep _ p2).rep.none_iff key).2 fun i k => ?_
  rw [ht _ p1]
  exact stands_new
theorem Du.th (s : Du H la N d F t M c) {i : Nat} (hi : i < N) (key : Nat) : isThere (t i) key (H key) = (M i key).isSome := (s.rep i hi).rep.there key
/-- where a key is found -/
theorem Du.seek0 (s : Du H la N d F t M c) (hN : N = 2 ∨ N = 3) (ht : rd = false → ∀ j, 1 ≤ j → t j = Tb.new n1) (key : Nat) :
    (∃ i v, fnd t key (H key) (js rd N d (H key)) = some i ∧ F key = some v ∧ M i key = some v ∧ (i = 0 ∨ i = tgt N d (H key) ∧ M 0 key = none ∧ rd = true)) ∨ (fnd t key (H key) (js rd N d (H key)) = none ∧ F key = none ∧ M 0 key = none ∧ M (tgt N d (H key)) key = none) := by
  have h0 := s.th (i := 0) (by omega) key
  have h1 := s.th (tgt_lt hN d (H key)) key
  have hu := s.un key
  have ho := s.one key
  cases e0 : M 0 key with
  | some v =>
    have e1 := ho (by rw [e0]; rfl)
    refine .inl ⟨0, v, ?_, ?_, e0, .inl rfl⟩
    · rw [e0] at h0; rw [e1] at h1
      cases rd
      · show (if _ then _ else _) = _
        rw [if_pos (by rw [h0]; rfl)]
      · show (if _ then _ else (if _ then _ else _)) = _
        rw [if_neg (by rw [h1]; decide), if_pos (by rw [h0]; rfl)]
    · rw [hu, e0]; rfl
  | none =>
    rw [e0] at h0 hu
    cases e1 : M (tgt N d (H key)) key with
    | some v =>
      cases rd
      · rw [s.bare hN (ht rfl) key] at e1; cases e1
      · refine .inl ⟨tgt N d (H key), v, ?_, ?_, e1, .inr ⟨rfl, rfl, rfl⟩⟩
        · rw [e1] at h1
          show (if _ then _ else _) = _
          rw [if_pos (by rw [h1]; rfl)]
        · rw [hu, e1]; rfl
    | none =>
      refine .inr ⟨?_, ?_, rfl, rfl⟩
      · rw [e1] at h1
        cases rd
        · show (if _ then _ else _) = _
          rw [if_neg (by rw [h0]; decide)]; rfl
        · show (if _ then _ else (if _ then _ else _)) = _
          rw [if_neg (by rw [h1]; decide), if_neg (by rw [h0]; decide)]; rfl
      · rw [hu, e1]; rfl
theorem Du.seekV (s : Du H la N d F t M c) (hN : N = 2 ∨ N = 3) (ht : rd = false → ∀ j, 1 ≤ j → t j = Tb.new n1) (key : Nat) :
    (dual.fnd t key (H key) (js rd N d (H key))).isSome = (F key).isSome ∧ ∀ v, F key = some v → (fndE t key (H key) (js rd N d (H key))).val = v := by
  rcases s.seek0 hN ht key with ⟨i, v, h1, h2, h3, h4⟩ | ⟨h1, h2, _⟩
  · refine ⟨by rw [h1, h2]; rfl, fun v' hv => ?_⟩
    have hi : i < N := by
      have := tgt_lt hN d (H key)
      rcases h4 with rfl | ⟨rfl, _⟩ <;> omega
    unfold fndE
    rw [h1]
    show (entOf (t i) key (H key)).val = v'
    rw [(s.rep i hi).rep.ent h3]
    exact Option.some.inj (h2.symm.trans hv)
  · exact ⟨by rw [h1, h2], fun v hv => by rw [h2] at hv; cases hv⟩
/-- Put -/
theorem Du.dput (s : Du H la N d F t M c) (hN : N = 2 ∨ N = 3) (ht : rd = false → ∀ j, 1 ≤ j → t j = Tb.new n1) (hla : la ≤ 1000) (hH : ∀ key, key < la → H key < 18446744073709551616) (hr : rd = true → ∀ i, 1 ≤ i → i < N → (c : Int) < 7 * ((t i).n : Int)) {key v : Nat} (hk : key < la) (hv : v < 18446744073709551616) :
    (dB t key (H key) (js rd N d (H key)) true = !(F key).isSome ∧ dE t key (H key) (js rd N d (H key)) true = 0 ∧ (∃ M', Du H la N d (set F key (some v)) (dT t key (H key) v (js rd N d (H key)) true) M' (c + 1)) ∧ (rd = false → ∀ j, 1 ≤ j → dT t key (H key) v (js rd N d (H key)) true j = Tb.new n1)) ∨
    (rd = false ∧ F key = none ∧ dB t key (H key) (js rd N d (H key)) true = false ∧ dE t key (H key) (js rd N d (H key)) true = 2 ∧ dT t key (H key) v (js rd N d (H key)) true = t) := by
  have hkb : key < 18446744073709551616 := by omega
  have p1 := tgt_pos N d (H key)
  have p2 := tgt_lt hN d (H key)
  have keep : ∀ x, (rd = false → ∀ j, 1 ≤ j → up t 0 x j = Tb.new n1) := fun x hx j hj => by rw [up_ne _ _ (by omega)]; exact ht hx j hj
  rcases s.seek0 hN ht key with ⟨i, v0, h1, h2, h3, h4⟩ | ⟨h1, h2, h5, h6⟩
  · left
    have eI : dI t key (H key) (js rd N d (H key)) = i := by unfold dI; rw [h1]; rfl
    refine ⟨by unfold dB; rw [h1, h2]; rfl, by unfold dE; rw [h1]; rfl, ?_, ?_⟩
    · have eT : dT t key (H key) v (js rd N d (H key)) true = up t i ((t i).puts key (H key) v) := by unfold dT; rw [eI, h1]; rfl
      rw [eT]
      rcases h4 with rfl | ⟨rfl, h5, _⟩
      · exact ⟨_, s.put0 hN hla hH hk hv (.inl (by rw [h3]; rfl))⟩
      · exact ⟨_, s.putT hN hla hH hk hv h5 (.inl (by rw [h3]; rfl))⟩
    · intro hx
      have eT : dT t key (H key) v (js rd N d (H key)) true = up t i ((t i).puts key (H key) v) := by unfold dT; rw [eI, h1]; rfl
      rw [eT]
      rcases h4 with rfl | ⟨_, _, hrd⟩
      · exact keep _ hx
      · rw [hrd] at hx; cases hx
  · cases rd with
    | false =>
      have eI : dI t key (H key) (js false N d (H key)) = 0 := by unfold dI; rw [h1]; rfl
      have eT : dT t key (H key) v (js false N d (H key)) true = up t 0 ((t 0).puts key (H key) v) := by unfold dT; rw [eI, h1]; rfl
      have eB : dB t key (H key) (js false N d (H key)) true = putB' (t 0) key (H key) := by unfold dB; rw [eI, h1]; rfl
      have eE : dE t key (H key) (js false N d (H key)) true = putE' (t 0) key (H key) := by unfold dE; rw [eI, h1]; rfl
      rw [eT, eB, eE]
      by_cases hl : 1 ≤ (t 0).left
      · left
        obtain ⟨_, q1, q2⟩ := repN_put (s.rep 0 (by omega)) hk hkb (hH _ hk) hv (.inr hl)
        exact ⟨by rw [q2, h5, h2], q1, ⟨_, s.put0 hN hla hH hk hv (.inr ⟨h6, hl⟩)⟩, keep _⟩
      · right
        obtain ⟨q1, q2, q3⟩ := ((s.rep 0 (by omega)).rep.puts (key := key) (v := v) hkb (hH _ hk) hv).2 (by rw [h5]; rfl) (by omega)
        exact ⟨rfl, h2, q3, q2, by rw [q1, up_self]⟩
    | true =>
      left
      have eI : dI t key (H key) (js true N d (H key)) = tgt N d (H key) := by unfold dI; rw [h1]; rfl
      have eT : dT t key (H key) v (js true N d (H key)) true = up t (tgt N d (H key)) ((t (tgt N d (H key))).puts key (H key) v) := by unfold dT; rw [eI, h1]; rfl
      have eB : dB t key (H key) (js true N d (H key)) true = putB' (t (tgt N d (H key))) key (H key) := by unfold dB; rw [eI, h1]; rfl
      have eE : dE t key (H key) (js true N d (H key)) true = putE' (t (tgt N d (H key))) key (H key) := by unfold dE; rw [eI, h1]; rfl
      rw [eT, eB, eE]
      have hl : 1 ≤ (t (tgt N d (H key))).left := by
        have a := s.cn _ p1 p2
        have b := hr rfl _ p1 p2
        have e := (s.rep 0 (by omega)).len
        unfold Tb.left
        omega
      obtain ⟨_, q1, q2⟩ := repN_put (s.rep _ p2) hk hkb (hH _ hk) hv (.inr hl)
      exact ⟨by rw [q2, h6, h2], q1, ⟨_, s.putT hN hla hH hk hv h5 (.inr hl)⟩, fun e => by cases e⟩
/-- Delete -/
theorem Du.ddel (s : Du H la N d F t M c) (hN : N = 2 ∨ N = 3) (ht : rd = false → ∀ j, 1 ≤ j → t j = Tb.new n1) {key : Nat} (hk : key < la) :
    (∃ M', Du H la N d (set F key none) (eT t key (H key) (js rd N d (H key))) M' c) ∧ (rd = false → ∀ j, 1 ≤ j → eT t key (H key) (js rd N d (H key)) j = Tb.new n1) := by
  rcases s.seek0 hN ht key with ⟨i, v0, h1, h2, h3, h4⟩ | ⟨h1, h2, h5, h6⟩
  · have eE : eT t key (H key) (js rd N d (H key)) = up t i ((t i).remove key (H key)) := by unfold eT; rw [h1]
    rw [eE]
    rcases h4 with rfl | ⟨rfl, h5, hrd⟩
    · exact ⟨⟨_, s.del0 hN hk (by rw [h3]; rfl)⟩, fun hx j hj => by rw [up_ne _ _ (by omega)]; exact ht hx j hj⟩
    · exact ⟨⟨_, s.delT hN hk h5⟩, fun hx => by rw [hrd] at hx; cases hx⟩
  · have eE : eT t key (H key) (js rd N d (H key)) = t := by unfold eT; rw [h1]
    rw [eE]
    have e : set F key none = F := by
      funext k; by_cases hk : k = key
      · subst hk; rw [set_same, h2]
      · rw [set_ne _ _ hk]
    rw [e]
    exact ⟨⟨M, s⟩, ht⟩
end
end Go.Proofs.YteedbnoefnlidaaGreatDoor.evac
