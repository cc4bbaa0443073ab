/- TableRefC: several texts in one: plain facts and laws for the walks. No program is named. -/
import Derived.Maps.AppendAt
import Derived.Deep.AppendLies
import Derived.Laws.Rows
import Derived.RegionTactic
import Derived.Test.YtplhgcidegngiaaGreatDoorTableRefB
import Derived.Test.YtplhgcidegngiaaGreatDoorGroupDoc
import Derived.Test.YtplhgcidegngiaaGreatDoorTableLeastMath

/-! ### append of a slice of any form ('append(x, y...)'): the second slice may be nil; texts for the walks. No program is named. -/
namespace Go.Proofs.YtplhgcidegngiaaGreatDoor.app
open Go
set_option linter.unusedSimpArgs false
set_option linter.unusedVariables false

/-- a slice of m elements holds these cells -/
def HasRow (w : World) (x : Value) (m : Nat) (news : List Value) : Prop := ∃ o c, x = .slice o m c ∧ ∀ j u, news[j]? = some u → ∃ a, o = some a ∧ w.cell? (a.add j) = some u
section
variable {P : Program} (w : World)
theorem run_append_val (base : Nat) (t ty e : TypeId) (i : TypeInfo) (z : Value) (size bytes : Nat) (ht : P.underlying t = some (.slice e)) (hi : P.info? e = some i) (hz : i.zero = some z)
    (hsize : i.size = size) (hby : i.bytes = bytes) (hzs : z.cells.size = size) (hsz : 0 < size)
    (v : Value) (n : Nat) (xs : List Value) (hown : w.ownsRow base e size v n xs)
    (x : Value) (m : Nat) (news : List Value) (hx : HasRow w x m news) (hl : news.length = m * size) (h1 : ∀ u ∈ news, u.oneCell' = true)
    (h63 : n + m ≤ maxLen) (hbytes : (n + m) * bytes ≤ 140737488355328) (hbase : base ≤ w.heap.size) :
    ∃ v' w', (Builtin.append_ #[t, t] ty #[v, x]).run P w = .ok v' w' ∧ w'.ownsRow base e size v' (n + m) (xs ++ news) ∧ w.grownBy w' v.ownBlock := by
  obtain ⟨o, c, rfl, hc⟩ := hx
  cases o with
  | some a =>
    obtain ⟨v', w', h1', h2, h3, _⟩ := run_append_own (P := P) w base t ty e i z size bytes ht hi hz hsize hby hzs hsz v n xs hown a m c news hl (fun j u hj => by obtain ⟨a', e, h⟩ := hc j u hj; cases e; exact h) h1 h63 hbytes hbase
    exact ⟨v', w', h1', h2, h3⟩
  | none =>
    have hn : news = [] := by
      cases hnw : news with
      | nil => rfl
      | cons u l => obtain ⟨a, e, _⟩ := hc 0 u (by rw [hnw]; rfl); cases e
    subst hn
    have hm : m = 0 := by
      rcases Nat.eq_zero_or_pos m with h | h
      · exact h
      · have := Nat.mul_pos h hsz
        simp only [List.length_nil] at hl; omega
    subst hm
    refine ⟨v, w, ?_, by simpa using hown, ⟨rfl, rfl, rfl, Nat.le_refl _, fun _ _ _ => rfl⟩⟩
    rcases hown.2 with ⟨rfl, rfl⟩ | ⟨g, cap, cur, rfl, hbg, hg, hnc, hcm, hcs, htake⟩
    · simp [Builtin.append_, run_underlying ht, sizeOf, typeInfo, hi, Builtin.lenOf, Builtin.firstCells, loadCells, loadCellsFrom]
    · simp [Builtin.append_, run_underlying ht, sizeOf, typeInfo, hi, Builtin.lenOf, Builtin.firstCells, loadCells, loadCellsFrom, hnc, storeCells]
theorem wp_append_val {o : Oper} {a : Act} {K : Act → World → Prop} {Q : Exit → Act → World → Prop} (s x : Operand) (t : TypeId)
    (ho : o.op = .call { callee := .builtin .append, args := #[s, x], argTypes := #[t, t] })
    (base : Nat) (e : TypeId) (i : TypeInfo) (z : Value) (size bytes : Nat) (ht : P.underlying t = some (.slice e)) (hi : P.info? e = some i) (hz : i.zero = some z)
    (hsize : i.size = size) (hby : i.bytes = bytes) (hzs : z.cells.size = size) (hsz : 0 < size)
    (v : Value) (n : Nat) (xs : List Value) (hs : a.eval s = v) (hown : w.ownsRow base e size v n xs)
    (y : Value) (m : Nat) (news : List Value) (hx : a.eval x = y) (hy : HasRow w y m news) (hl : news.length = m * size) (h1 : ∀ u ∈ news, u.oneCell' = true)
    (h63 : n + m ≤ maxLen) (hbytes : (n + m) * bytes ≤ 140737488355328) (hbase : base ≤ w.heap.size)
    (h : ∀ v' w', w'.ownsRow base e size v' (n + m) (xs ++ news) → w.grownBy w' v.ownBlock → K (a.put o.dst v') w') : o.wp P a w K Q := by
  obtain ⟨v', w', hr, h2, h3⟩ := run_append_val (P := P) w base t o.type e i z size bytes ht hi hz hsize hby hzs hsz v n xs hown y m news hy hl h1 h63 hbytes hbase
  unfold Oper.wp execOp
  simp only [ho, resolve, invoke, builtin, Sem.run_bind, Sem.run_pure, Result.andThen_ok, List.map_toArray, List.map_cons, List.map_nil, hs, hx, hr]
  exact h v' w' h2 h3
theorem wpList_append_val {ops : Array Oper} {rest : List Oper} {o : Oper} {a : Act} {Q : Exit → Act → World → Prop} (hgd : o.guard = none) (s x : Operand) (t : TypeId)
    (ho : o.op = .call { callee := .builtin .append, args := #[s, x], argTypes := #[t, t] })
    (base : Nat) (e : TypeId) (i : TypeInfo) (z : Value) (size bytes : Nat) (ht : P.underlying t = some (.slice e)) (hi : P.info? e = some i) (hz : i.zero = some z)
    (hsize : i.size = size) (hby : i.bytes = bytes) (hzs : z.cells.size = size) (hsz : 0 < size)
    (v : Value) (n : Nat) (xs : List Value) (hs : a.eval s = v) (hown : w.ownsRow base e size v n xs)
    (y : Value) (m : Nat) (news : List Value) (hx : a.eval x = y) (hy : HasRow w y m news) (hl : news.length = m * size) (h1 : ∀ u ∈ news, u.oneCell' = true)
    (h63 : n + m ≤ maxLen) (hbytes : (n + m) * bytes ≤ 140737488355328) (hbase : base ≤ w.heap.size)
    (h : ∀ v' w', w'.ownsRow base e size v' (n + m) (xs ++ news) → w.grownBy w' v.ownBlock → wpList P ops Q rest (a.put o.dst v') w') : wpList P ops Q (o :: rest) a w :=
  wpList_plain hgd fun _ hK => wp_append_val w s x t ho base e i z size bytes ht hi hz hsize hby hzs hsz v n xs hs hown y m news hx hy hl h1 h63 hbytes hbase fun v' w' h2 h3 => hK _ _ (h v' w' h2 h3)
theorem step_append_val {ops : Array Oper} {o : Oper} {a : Act} {K : Act → World → Prop} {Q : Exit → Act → World → Prop} {E : Prop} (hgd : o.guard = none) (s x : Operand) (t : TypeId)
    (ho : o.op = .call { callee := .builtin .append, args := #[s, x], argTypes := #[t, t] })
    (base : Nat) (e : TypeId) (i : TypeInfo) (z : Value) (size bytes : Nat) (ht : P.underlying t = some (.slice e)) (hi : P.info? e = some i) (hz : i.zero = some z)
    (hsize : i.size = size) (hby : i.bytes = bytes) (hzs : z.cells.size = size) (hsz : 0 < size)
    (v : Value) (n : Nat) (xs : List Value) (hs : a.eval s = v) (hown : w.ownsRow base e size v n xs)
    (y : Value) (m : Nat) (news : List Value) (hx : a.eval x = y) (hy : HasRow w y m news) (hl : news.length = m * size) (h1 : ∀ u ∈ news, u.oneCell' = true)
    (h63 : n + m ≤ maxLen) (hbytes : (n + m) * bytes ≤ 140737488355328) (hbase : base ≤ w.heap.size)
    (h : ∀ v' w', w'.ownsRow base e size v' (n + m) (xs ++ news) → w.grownBy w' v.ownBlock → K (a.put o.dst v') w') :
    if Region.wanted o (yielded ops a.tmps) = true then Oper.wp P o a w K Q else E := by
  have hw : Region.wanted o (yielded ops a.tmps) = true := by simp [Region.wanted, hgd]
  rw [if_pos hw]
  exact wp_append_val w s x t ho base e i z size bytes ht hi hz hsize hby hzs hsz v n xs hs hown y m news hx hy hl h1 h63 hbytes hbase h
end
/-- what a call owns, read as such a slice -/
theorem HasRow.own {w : World} {base size n : Nat} {e : TypeId} {v : Value} {xs : List Value} (h : w.ownsRow base e size v n xs) : HasRow w v n xs := by
  have hc := fun {g : Nat} (hg : v.ownBlock = some g) => h.cells hg
  rcases h.2 with ⟨rfl, rfl⟩ | ⟨g, cap, cur, rfl, _⟩
  · have hx : xs = [] := List.eq_nil_of_length_eq_zero (by simpa using h.1)
    subst hx
    exact ⟨_, _, rfl, fun j u hj => by simp at hj⟩
  · exact ⟨_, _, rfl, fun j u hj => ⟨_, rfl, hc rfl j u hj⟩⟩
theorem HasRow.read {w w' : World} {x : Value} {m : Nat} {news : List Value} (h : HasRow w x m news) (hb : ∀ a u, w.cell? a = some u → w'.cell? a = some u) : HasRow w' x m news := by
  obtain ⟨o, c, e, hc⟩ := h
  exact ⟨o, c, e, fun j u hj => by obtain ⟨a, e, hu⟩ := hc j u hj; exact ⟨a, e, hb _ u hu⟩⟩
end Go.Proofs.YtplhgcidegngiaaGreatDoor.app

/-! ### table: the document's table: Take, All, Text. -/
namespace Go.Proofs.YtplhgcidegngiaaGreatDoor.table
open Go.ChangeShapes Go.WideShapes Go.ChangeAt Go.RowKit Go.Shelf swar under trap meter group probe lens tail call
attribute [local go_sem] Oper.semAt_some stage.pureUpon move.stepUpon
set_option linter.unusedSimpArgs false
set_option linter.unusedVariables false

theorem row_past {w w' : World} {base : Nat} {e : TypeId} {size n : Nat} {v : Value} {xs : List Value} {d : List Nat} (h : w.ownsRow base e size v n xs) (hp : Past d w w') (hd : ∀ b ∈ d, b < base) : w'.ownsRow base e size v n xs := by
  refine ⟨h.1, ?_⟩
  rcases h.2 with h2 | ⟨g, cap, cur, h1, h2, h3, h4⟩
  · exact .inl h2
  · exact .inr ⟨g, cap, cur, h1, h2, (hp.block g (Array.getElem?_eq_some_iff.1 h3).1 fun hm => by have := hd g hm; omega).trans h3, h4⟩
/-- a group's first k slots, taken -/
def tk (t : Tb) (a : Nat) : Nat → Tb
  | 0 => t
  | k + 1 => if ((tk t a k).gs a k).kind = 3 then (tk t a k).era a k else tk t a k
theorem tk_succ (t : Tb) (a k : Nat) : tk t a (k + 1) = if ((tk t a k).gs a k).kind = 3 then (tk t a k).era a k else tk t a k := rfl
theorem tk_n (t : Tb) (a : Nat) : ∀ k, (tk t a k).n = t.n
  | 0 => rfl
  | k + 1 => by rw [tk_succ]; split; exact tk_n t a k; exact tk_n t a k
theorem tk_next {t : Tb} {a k : Nat} (hk : k < 8) : (tk t a (k + 1)).gs = upd (tk t a k).gs a (eraG ((tk t a k).gs a) (k : Int)) := by
  rw [tk_succ]
  by_cases h : ((tk t a k).gs a k).kind = 3
  · rw [if_pos h, era_full hk h]; rfl
  · rw [if_neg h]
    have h1 : fullAt ((tk t a k).gs a) (k : Int) = false := by unfold fullAt; rw [show ((k : Int).toNat) = k from rfl, is_not' h]; simp
    unfold eraG; rw [h1]; exact (upd_id _ _).symm
theorem tk_ok {t : Tb} (h : t.Ok) {a : Nat} (ha : a < t.n) : ∀ k, k ≤ 8 → (tk t a k).Ok
  | 0, _ => h
  | k + 1, hk => by
    rw [tk_succ]; split
    · next h3 => exact (tk_ok h ha k (by omega)).era (by rw [tk_n]; exact ha) (by omega) h3
    · exact tk_ok h ha k (by omega)
/-- what stands behind slot k is as it was -/
theorem tk_far (t : Tb) (a : Nat) : ∀ k j, k ≤ j → (tk t a k).gs a j = t.gs a j
  | 0, j, _ => rfl
  | k + 1, j, hj => by
    rw [tk_succ]; split
    · show (upd (tk t a k).gs a (((tk t a k).gs a).put k (erased ((tk t a k).gs a)))) a j = _
      rw [slot_other (by omega)]; exact tk_far t a k j (by omega)
    · exact tk_far t a k j (by omega)
/-! ### All -/
/-- the cells of some entries -/
def rowsS (l : List Sl) : List Value := l.flatMap ent
theorem rowsS_app (l m : List Sl) : rowsS (l ++ m) = rowsS l ++ rowsS m := by simp [rowsS]
theorem rowsS_length : ∀ l : List Sl, (rowsS l).length = l.length * 3
  | [] => rfl
  | s :: l => by have := rowsS_length l; simp [rowsS, ent] at this ⊢; omega
theorem rowsS_one : ∀ (l : List Sl) (u : Value), u ∈ rowsS l → u.oneCell' = true
  | s :: l, u, h => by
    have e : rowsS (s :: l) = ent s ++ rowsS l := by simp [rowsS]
    rw [e] at h
    rcases List.mem_append.1 h with h | h
    · simp [ent] at h; rcases h with rfl | rfl | rfl <;> rfl
    · exact rowsS_one l u h
theorem rows_rowsS (g : Gp) : rows g (fulls g) = rowsS (entsG g) := by
  unfold rows rowsS entsG; rw [List.flatMap_map]
theorem entsG_len (g : Gp) : (entsG g).length = (fulls g).length := by unfold entsG; simp
theorem entsG_le (g : Gp) : (entsG g).length ≤ 8 := by rw [entsG_len]; have := range_len g 8; exact this
theorem ents_le (t : Tb) : ∀ k, (ents t k).length ≤ 8 * k
  | 0 => by simp [ents]
  | k + 1 => by rw [ents_succ, List.length_append]; have := ents_le t k; have := entsG_le (t.gs k); omega
/-- a slice of the call's own holds some entries -/
def KeptE (base : Nat) (W : World) (v : Value) (l : List Sl) : Prop := W.ownsRow base 86 3 v l.length (rowsS l)
theorem Kept.ents {base : Nat} {W : World} {v : Value} {g : Gp} (h : Kept base W v g (fulls g)) : KeptE base W v (entsG g) := by
  unfold KeptE; rw [← rows_rowsS, entsG_len]; exact h
theorem KeptE.append {base : Nat} {W : World} {v' : Value} {l m : List Sl} (h : W.ownsRow base 86 3 v' (l.length + m.length) (rowsS l ++ rowsS m)) : KeptE base W v' (l ++ m) := by
  unfold KeptE; rw [rowsS_app, List.length_append]; exact h
/-! ### Text -/
end Go.Proofs.YtplhgcidegngiaaGreatDoor.table
