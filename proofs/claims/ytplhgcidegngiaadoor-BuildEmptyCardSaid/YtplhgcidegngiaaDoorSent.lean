/- What the listed errors of a row give: each listed variable holds a pointer of its own, no two the same, and the rows behind them are plain. No program is named. -/
import Derived.Stop.LaidErr
import Derived.Below
namespace Go.Proofs.YtplhgcidegngiaaDoor.sent
open Go

abbrev mkSent (nm : String) (x : String × List UInt8) : String × DataW Unit := (x.1, .iface nm (.ptr (.agg [.lit (.string x.2)])))

theorem sents_of {P : Program} {nm : String} {W : World} {ti tp te ts : TypeId} {ms : Array (String × TypeId)} {f : Field}
    (hi : P.underlying ti = some (.interface ms)) (hrow : ∀ u, P.typeName? 3 u = some nm → u = tp)
    (hp : P.underlying tp = some (.pointer te)) (he : P.underlying te = some (.struct #[f])) (hft : f.type = ts) (hfo : f.offset = 0) (hs : P.underlying ts = some .string) (hc : P.cellsOf te = 1) (hcs : P.cellsOf ts = 1) :
    ∀ (L : List (String × List UInt8)) (ps : List MemPlace), DataW.LaidVars P W (L.map (mkSent nm)) ps → ps.Nodup →
      (∀ b off, MemPlace.cell b off ∈ ps → (∃ c t, W.heap[b]? = some (.cells c t (0, 0))) ∧ ∀ u v, W.cell? ⟨b, off, none⟩ = some (.iface u v) → Value.okWide P W .any 0 u v) →
      (∀ x ∈ L, (P.globalNamed x.1).bind (fun g => (P.globals[g]?).map (·.type)) = some ti) → (L.map Prod.fst).Nodup →
      ∃ a : String → Addr, (∀ x ∈ L, MemPlace.cell (a x.1).block (a x.1).off ∈ ps ∧ (∃ g, P.globalNamed x.1 = some g ∧ W.cell? ⟨g, 0, none⟩ = some (.iface tp (.pointer (some (a x.1))))) ∧ (∃ c t, W.heap[(a x.1).block]? = some (.cells c t (0, 0)))) ∧
        ∀ x ∈ L, ∀ y ∈ L, a x.1 = a y.1 → x.1 = y.1
  | [], _, _, _, _, _, _ => ⟨fun _ => ⟨0, 0, none⟩, fun _ h => (by cases h), fun _ h => (by cases h)⟩
  | x :: L, ps, hl, hnd, hrows, hty, hn => by
    obtain ⟨g, t, cs, fu, p, q, hg, ht, hv, hd, hr, e⟩ := hl
    subst e
    have htx := hty x (by simp)
    simp only [hg, Option.bind_some] at htx
    obtain rfl := Option.some.inj (htx.symm.trans ht)
    obtain ⟨cs⟩ := cs
    have ok0 : ∀ u v, cs = [.iface u v] → Value.okWide P W .any 0 u v := fun u v e => by
      subst e
      exact (hrows g 0 (by simp [MemPlace.row])).2 u v (by simpa using World.var?_cell hg hv 0)
    obtain ⟨a0, s0, rfl, hc0, hs0, hz0, rfl⟩ := errorString_of_trod hi hrow hp he hft hfo hs hc hcs hd ok0
    have hb0 := (hrows a0.block a0.off (by simp [MemPlace.row])).1
    have hcell : W.cell? ⟨g, 0, none⟩ = some (.iface tp (.pointer (some a0))) := by simpa using World.var?_cell hg hv 0
    rw [List.nodup_append] at hnd
    obtain ⟨hnd1, hnd2, hnd3⟩ := hnd
    obtain ⟨a, ha, hinj⟩ := sents_of hi hrow hp he hft hfo hs hc hcs L q hr hnd2 (fun b off h => hrows b off (List.mem_append_right _ h)) (fun y hy => hty y (List.mem_cons_of_mem _ hy)) (List.nodup_cons.1 hn).2
    have hx : ∀ y ∈ L, y.1 ≠ x.1 := fun y hy e => (List.nodup_cons.1 hn).1 (e ▸ List.mem_map_of_mem hy)
    have hne : ∀ y ∈ L, a y.1 ≠ a0 := fun y hy e => by
      have h1 := (ha y hy).1
      rw [e] at h1
      exact hnd3 _ (List.mem_append_right _ (by simp [MemPlace.row])) _ h1 rfl
    refine ⟨fun n => if n = x.1 then a0 else a n, fun y hy => ?_, fun y hy z hz => ?_⟩
    · rcases List.mem_cons.1 hy with rfl | hy
      · simp only [if_true]
        exact ⟨List.mem_append_left _ (List.mem_append_right _ (by simp [MemPlace.row])), ⟨g, hg, hcell⟩, hb0⟩
      · simp only [if_neg (hx y hy)]
        exact ⟨List.mem_append_right _ (ha y hy).1, (ha y hy).2⟩
    · rcases List.mem_cons.1 hy with hy0 | hy1
      · rcases List.mem_cons.1 hz with hz0 | hz1
        · intro _; rw [hy0, hz0]
        · rw [hy0]
          simp only [if_true, if_neg (hx z hz1)]
          intro e; exact absurd e.symm (hne z hz1)
      · rcases List.mem_cons.1 hz with hz0 | hz1
        · rw [hz0]
          simp only [if_true, if_neg (hx y hy1)]
          intro e; exact absurd e (hne y hy1)
        · simp only [if_neg (hx y hy1), if_neg (hx z hz1)]
          exact hinj y hy1 z hz1

theorem sents {P : Program} {nm : String} {W : World} {ti tp te ts : TypeId} {ms : Array (String × TypeId)} {f : Field}
    (hi : P.underlying ti = some (.interface ms)) (hrow : ∀ u, P.typeName? 3 u = some nm → u = tp)
    (hp : P.underlying tp = some (.pointer te)) (he : P.underlying te = some (.struct #[f])) (hft : f.type = ts) (hfo : f.offset = 0) (hs : P.underlying ts = some .string) (hc : P.cellsOf te = 1) (hcs : P.cellsOf ts = 1)
    (L : List (String × List UInt8)) (h : laidMet P (L.map (mkSent nm)) W) (hty : ∀ x ∈ L, (P.globalNamed x.1).bind (fun g => (P.globals[g]?).map (·.type)) = some ti) (hn : (L.map Prod.fst).Nodup) :
    ∃ a : String → Addr, (∀ n ∈ L.map Prod.fst, (∃ g, P.globalNamed n = some g ∧ W.cell? ⟨g, 0, none⟩ = some (.iface tp (.pointer (some (a n))))) ∧ (∃ c t, W.heap[(a n).block]? = some (.cells c t (0, 0)))) ∧
      ∀ n ∈ L.map Prod.fst, ∀ m ∈ L.map Prod.fst, a n = a m → n = m := by
  obtain ⟨ps, hl, hnd, hrows⟩ := h
  obtain ⟨a, h1, h2⟩ := sents_of hi hrow hp he hft hfo hs hc hcs L ps hl hnd hrows hty hn
  refine ⟨a, fun n hn => ?_, fun n hn m hm => ?_⟩
  · obtain ⟨x, hx, rfl⟩ := List.mem_map.1 hn
    exact (h1 x hx).2
  · obtain ⟨x, hx, rfl⟩ := List.mem_map.1 hn
    obtain ⟨y, hy, rfl⟩ := List.mem_map.1 hm
    exact h2 x hx y hy
end Go.Proofs.YtplhgcidegngiaaDoor.sent
