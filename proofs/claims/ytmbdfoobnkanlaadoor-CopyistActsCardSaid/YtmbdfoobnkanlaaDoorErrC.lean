/- ErrC: several texts in one: plain facts and laws for the walks. No program is named. -/
import Derived.Stop.LaidErr
import Derived.Below
import Derived.Test.YtmbdfoobnkanlaaDoorRows
import Derived.WalkKit
import Derived.ProofKit
import Derived.BigQuiet
import Derived.LaidEql
import Derived.Stop.Asserts
import Derived.RowKitTokens
import Derived.LoopN
import Derived.Outline
import Derived.LoopTactic
import Derived.Stop.IfaceNil
import Derived.RegionTactic
import Derived.Lib.Hide
import Derived.Test.YtmbdfoobnkanlaaDoorSwarFd
import Derived.Test.YtmbdfoobnkanlaaDoorMath
import Derived.Deep.RegionWith
import Derived.Laws.IdiomStrings

/-! ### Errors: several texts in one: plain facts and laws for the walks. No program is named. -/
/-! ### What the listed errors of a row give: each listed variable holds a pointer of its own, no two the same, and the rows behind them are plain. No program is named. -/
namespace Go.Proofs.YtmbdfoobnkanlaaDoor.sent
open Go

abbrev mkSent (nm : String) (x : String × List UInt8) : String × DataW Unit := (x.1, .iface nm (.ptr (.agg [.lit (.string x.2)])))

theorem sents_of {P : Program} {nm : String} {W : World} {ti tp te ts : TypeId} {ms : Array (String × TypeId)} {f : Field}
    (hi : P.underlying ti = some (.interface ms)) (hrow : ∀ u, P.typeName? 3 u = some nm → u = tp)
    (hp : P.underlying tp = some (.pointer te)) (he : P.underlying te = some (.struct #[f])) (hft : f.type = ts) (hfo : f.offset = 0) (hs : P.underlying ts = some .string) (hc : P.cellsOf te = 1) (hcs : P.cellsOf ts = 1) :
    ∀ (L : List (String × List UInt8)) (ps : List MemPlace), DataW.LaidVars P W (L.map (mkSent nm)) ps → ps.Nodup →
      (∀ b off, MemPlace.cell b off ∈ ps → (∃ c t, W.heap[b]? = some (.cells c t (0, 0))) ∧ ∀ u v, W.cell? ⟨b, off, none⟩ = some (.iface u v) → Value.okWide P W .any 0 u v) →
      (∀ x ∈ L, (P.globalNamed x.1).bind (fun g => (P.globals[g]?).map (·.type)) = some ti) → (L.map Prod.fst).Nodup →
      ∃ a : String → Addr, (∀ x ∈ L, MemPlace.cell (a x.1).block (a x.1).off ∈ ps ∧ (∃ g, P.globalNamed x.1 = some g ∧ W.cell? ⟨g, 0, none⟩ = some (.iface tp (.pointer (some (a x.1))))) ∧ (∃ c t, W.heap[(a x.1).block]? = some (.cells c t (0, 0)))) ∧
        ∀ x ∈ L, ∀ y ∈ L, a x.1 = a y.1 → x.1 = y.1
  | [], _, _, _, _, _, _ => ⟨fun _ => ⟨0, 0, none⟩, fun _ h => (by cases h), fun _ h => (by cases h)⟩
  | x :: L, ps, hl, hnd, hrows, hty, hn => by
    obtain ⟨g, t, cs, fu, p, q, hg, ht, hv, hd, hr, e⟩ := hl
    subst e
    have htx := hty x (by simp)
    simp only [hg, Option.bind_some] at htx
    obtain rfl := Option.some.inj (htx.symm.trans ht)
    obtain ⟨cs⟩ := cs
    have ok0 : ∀ u v, cs = [.iface u v] → Value.okWide P W .any 0 u v := fun u v e => by
      subst e
      exact (hrows g 0 (by simp [MemPlace.row])).2 u v (by simpa using World.var?_cell hg hv 0)
    obtain ⟨a0, s0, rfl, hc0, hs0, hz0, rfl⟩ := errorString_of_trod hi hrow hp he hft hfo hs hc hcs hd ok0
    have hb0 := (hrows a0.block a0.off (by simp [MemPlace.row])).1
    have hcell : W.cell? ⟨g, 0, none⟩ = some (.iface tp (.pointer (some a0))) := by simpa using World.var?_cell hg hv 0
    rw [List.nodup_append] at hnd
    obtain ⟨hnd1, hnd2, hnd3⟩ := hnd
    obtain ⟨a, ha, hinj⟩ := sents_of hi hrow hp he hft hfo hs hc hcs L q hr hnd2 (fun b off h => hrows b off (List.mem_append_right _ h)) (fun y hy => hty y (List.mem_cons_of_mem _ hy)) (List.nodup_cons.1 hn).2
    have hx : ∀ y ∈ L, y.1 ≠ x.1 := fun y hy e => (List.nodup_cons.1 hn).1 (e ▸ List.mem_map_of_mem hy)
    have hne : ∀ y ∈ L, a y.1 ≠ a0 := fun y hy e => by
      have h1 := (ha y hy).1
      rw [e] at h1
      exact hnd3 _ (List.mem_append_right _ (by simp [MemPlace.row])) _ h1 rfl
    refine ⟨fun n => if n = x.1 then a0 else a n, fun y hy => ?_, fun y hy z hz => ?_⟩
    · rcases List.mem_cons.1 hy with rfl | hy
      · simp only [if_true]
        exact ⟨List.mem_append_left _ (List.mem_append_right _ (by simp [MemPlace.row])), ⟨g, hg, hcell⟩, hb0⟩
      · simp only [if_neg (hx y hy)]
        exact ⟨List.mem_append_right _ (ha y hy).1, (ha y hy).2⟩
    · rcases List.mem_cons.1 hy with hy0 | hy1
      · rcases List.mem_cons.1 hz with hz0 | hz1
        · intro _; rw [hy0, hz0]
        · rw [hy0]
          simp only [if_true, if_neg (hx z hz1)]
          intro e; exact absurd e.symm (hne z hz1)
      · rcases List.mem_cons.1 hz with hz0 | hz1
        · rw [hz0]
          simp only [if_true, if_neg (hx y hy1)]
          intro e; exact absurd e (hne y hy1)
        · simp only [if_neg (hx y hy1), if_neg (hx z hz1)]
          exact hinj y hy1 z hz1

theorem sents {P : Program} {nm : String} {W : World} {ti tp te ts : TypeId} {ms : Array (String × TypeId)} {f : Field}
    (hi : P.underlying ti = some (.interface ms)) (hrow : ∀ u, P.typeName? 3 u = some nm → u = tp)
    (hp : P.underlying tp = some (.pointer te)) (he : P.underlying te = some (.struct #[f])) (hft : f.type = ts) (hfo : f.offset = 0) (hs : P.underlying ts = some .string) (hc : P.cellsOf te = 1) (hcs : P.cellsOf ts = 1)
    (L : List (String × List UInt8)) (h : laidMet P (L.map (mkSent nm)) W) (hty : ∀ x ∈ L, (P.globalNamed x.1).bind (fun g => (P.globals[g]?).map (·.type)) = some ti) (hn : (L.map Prod.fst).Nodup) :
    ∃ a : String → Addr, (∀ n ∈ L.map Prod.fst, (∃ g, P.globalNamed n = some g ∧ W.cell? ⟨g, 0, none⟩ = some (.iface tp (.pointer (some (a n))))) ∧ (∃ c t, W.heap[(a n).block]? = some (.cells c t (0, 0)))) ∧
      ∀ n ∈ L.map Prod.fst, ∀ m ∈ L.map Prod.fst, a n = a m → n = m := by
  obtain ⟨ps, hl, hnd, hrows⟩ := h
  obtain ⟨a, h1, h2⟩ := sents_of hi hrow hp he hft hfo hs hc hcs L ps hl hnd hrows hty hn
  refine ⟨a, fun n hn => ?_, fun n hn m hm => ?_⟩
  · obtain ⟨x, hx, rfl⟩ := List.mem_map.1 hn
    exact (h1 x hx).2
  · obtain ⟨x, hx, rfl⟩ := List.mem_map.1 hn
    obtain ⟨y, hy, rfl⟩ := List.mem_map.1 hm
    exact h2 x hx y hy
end Go.Proofs.YtmbdfoobnkanlaaDoor.sent

/-! ### The errors of package api as the program finds them: errors.Is of one and another, and their numbers by the document's table (amblernum.Num). -/
namespace Go.Proofs.YtmbdfoobnkanlaaDoor.errs
open Go.RowKit Go.Extern.Stop Go.Stop Go.Extern

/-- the value of the error that lies at a place -/
abbrev errV (x : Addr) : Value := .iface 118 (.pointer (some x))

/-! ### closed facts: what errors.Is asks of such a target -/
theorem isTypeOf (v : Value) (w : World) : (Extern.ReflectliteType.typeOf #[.iface 118 v]).run Tryd.prog w = .ok (.iface 102 (.agg #[.pointer (some ⟨16, 118, none⟩)])) w := by kernel_rfl
def cmpOf : Array Value → Sem Value := Extern.ReflectliteType.method fun t => do Go.Extern.Rtype.noPackHeld "Comparable" t; pure (.bool (← typeInfo t).comparable)
theorem cmpRun (w : World) : (cmpOf #[.agg #[.pointer (some ⟨16, 118, none⟩)]]).run Tryd.prog w = .ok (.bool true) w := by kernel_rfl
theorem isComparable (w : World) : (callFunc 79 #[.agg #[.pointer (some ⟨16, 118, none⟩)]]).run Tryd.prog w = .ok (Next.value (.bool true)) w := by
  have h := @run_callFunc_extern Tryd.prog 79 _ cmpOf Tryd.func79 (by kernel_rfl) (by kernel_rfl) (by kernel_rfl) (by kernel_rfl) #[.agg #[.pointer (some ⟨16, 118, none⟩)]] w
  rw [h, cmpRun]; rfl
theorem isMethodComparable (v : Value) (w : World) : (Go.method 256 102 v "Comparable").run Tryd.prog w = .ok (79, v) w := by kernel_rfl
theorem isComp : (Tryd.prog.info? 118).map (·.comparable) = some true := by kernel_rfl
theorem isSize : (Tryd.prog.info? 144).map (·.size) = some 1 := by kernel_rfl
theorem noIsE (v : Value) (xT : TypeId) (w : World) : (Instr.typeAssert (.iface 118 v) xT 104 true).run Tryd.prog w = .ok (.tuple #[.nilIface, .bool false]) w := run_typeAssert_lacksB Tryd.underlying104 (by kernel_rfl) (by kernel_rfl) v xT w
theorem noUnwrapE (v : Value) (xT : TypeId) (w : World) : (Instr.typeAssert (.iface 118 v) xT 107 true).run Tryd.prog w = .ok (.tuple #[.nilIface, .bool false]) w := run_typeAssert_lacksB Tryd.underlying107 (by kernel_rfl) (by kernel_rfl) v xT w
theorem noUnwrapsE (v : Value) (xT : TypeId) (w : World) : (Instr.typeAssert (.iface 118 v) xT 109 true).run Tryd.prog w = .ok (.tuple #[.nilIface, .bool false]) w := run_typeAssert_lacksB Tryd.underlying109 (by kernel_rfl) (by kernel_rfl) v xT w

/-- errors.Is of an error and itself -/
theorem is_same (a : Addr) (w : World) :
    Calls Tryd.prog 27 #[errV a, errV a] w fun e w' => e = .returned (.bool true) ∧ w = w' := by
  obtain ⟨i, hi, hcmp⟩ := Option.map_eq_some_iff.1 isComp
  obtain ⟨j, hj, hjs⟩ := Option.map_eq_some_iff.1 isSize
  have h8 := @run_callFunc_extern Tryd.prog 40 _ Extern.ReflectliteType.typeOf Tryd.func40 (by kernel_rfl) (by kernel_rfl) (by kernel_rfl) (by kernel_rfl)
  have tT := isTypeOf
  have cT := isComparable
  have mR := isMethodComparable
  have heq := run_eql_iface_ptr_same (P := Tryd.prog) w a Tryd.underlying28 Tryd.underlying118 hi hcmp hj
  go_enter Tryd.func27, Tryd.ntmps27
  go_wp2
  refine wp_loop_rounds 1 ?_
  rw [rounds_succ]
  go_wp2
  go_ret
  exact ⟨rfl, rfl⟩
/-- errors.Is of two errors -/
theorem is_other (a b : Addr) (ca cb : Array Value) (ta tb : TypeId) (w : World) (hne : a ≠ b) (ha : w.heap[a.block]? = some (.cells ca ta (0, 0))) (hb : w.heap[b.block]? = some (.cells cb tb (0, 0))) :
    Calls Tryd.prog 27 #[errV a, errV b] w fun e w' => e = .returned (.bool false) ∧ w = w' := by
  obtain ⟨i, hi, hcmp⟩ := Option.map_eq_some_iff.1 isComp
  obtain ⟨j, hj, hjs⟩ := Option.map_eq_some_iff.1 isSize
  have h8 := @run_callFunc_extern Tryd.prog 40 _ Extern.ReflectliteType.typeOf Tryd.func40 (by kernel_rfl) (by kernel_rfl) (by kernel_rfl) (by kernel_rfl)
  have tT := isTypeOf
  have cT := isComparable
  have mR := isMethodComparable
  have nE := noIsE
  have uE := noUnwrapE
  have vE := noUnwrapsE
  have heq := run_eql_iface_ptr_other (P := Tryd.prog) w Tryd.underlying28 Tryd.underlying118 hi hcmp hj (by rw [hjs]; decide) hne ha hb
  go_enter Tryd.func27, Tryd.ntmps27
  go_wp2
  refine wp_loop_rounds 1 ?_
  rw [rounds_succ]
  go_wp2
  go_ret
  exact ⟨rfl, rfl⟩

/-- the errors' variables by their numbers, from 1 on -/
def names : List String := ["ambler/api.ErrRange", "ambler/api.ErrFull", "ambler/api.ErrForm", "ambler/api.ErrNone", "ambler/api.ErrState", "ambler/api.ErrBadIter", "ambler/api.ErrTooMany", "ambler/api.ErrHash", "ambler/api.ErrLong", "ambler/api.ErrBroken", "ambler/api.ErrLimit", "ambler/api.ErrEmpty", "ambler/api.ErrNumber", "ambler/api.ErrKind", "ambler/api.ErrName", "ambler/api.ErrDup"]
/-- the listed errors lie in their variables, each at a place of its own -/
structure ErrsOk (ns : List String) (a : String → Addr) (w : World) : Prop where
  cell : ∀ n ∈ ns, ∃ g, Tryd.prog.globalNamed n = some g ∧ w.cell? ⟨g, 0, none⟩ = some (errV (a n))
  row : ∀ n ∈ ns, ∃ c t, w.heap[(a n).block]? = some (.cells c t (0, 0))
  ne : ∀ n ∈ ns, ∀ m ∈ ns, a n = a m → n = m
theorem ErrsOk.at {ns : List String} {a : String → Addr} {w : World} (h : ErrsOk ns a w) {n : String} {g : Nat} (hg : Tryd.prog.globalNamed n = some g) (hn : n ∈ ns) : w.cell? ⟨g, 0, none⟩ = some (errV (a n)) := by
  obtain ⟨g', hg', hc⟩ := h.cell n hn
  obtain rfl := Option.some.inj (hg.symm.trans hg')
  exact hc
theorem ErrsOk.below {ns : List String} {a : String → Addr} {w w' : World} (h : ErrsOk ns a w) (hb : Below w.heap.size w w') : ErrsOk ns a w' := by
  refine ⟨fun n hn => ?_, fun n hn => ?_, h.ne⟩
  · obtain ⟨g, hg, hc⟩ := h.cell n hn
    exact ⟨g, hg, (hb.cell (p := ⟨g, 0, none⟩) (World.block_lt_of_cell? w _ hc)).trans hc⟩
  · obtain ⟨c, t, hr⟩ := h.row n hn
    have hlt : (a n).block < w.heap.size := by
      rcases Nat.lt_or_ge (a n).block w.heap.size with h' | h'
      · exact h'
      · simp [Array.getElem?_eq_none h'] at hr
    exact ⟨c, t, (hb.block _ hlt).trans hr⟩
theorem ErrsOk.drewN {ns : List String} {a : String → Addr} {w : World} (h : ErrsOk ns a w) (q : Nat) : ErrsOk ns a (w.drewN q) := ⟨h.cell, h.row, h.ne⟩
theorem ErrsOk.mono {ns ns' : List String} {a : String → Addr} {w : World} (h : ErrsOk ns a w) (hs : ∀ n ∈ ns', n ∈ ns) : ErrsOk ns' a w := ⟨fun n hn => h.cell n (hs n hn), fun n hn => h.row n (hs n hn), fun n hn m hm => h.ne n (hs n hn) m (hs m hm)⟩
/-- errors.Is of two of them -/
theorem is_not {ns : List String} {a : String → Addr} {w : World} (h : ErrsOk ns a w) {n m : String} (hn : n ∈ ns) (hm : m ∈ ns) (hne : n ≠ m) :
    Calls Tryd.prog 27 #[errV (a n), errV (a m)] w fun e w' => e = .returned (.bool false) ∧ w = w' := by
  obtain ⟨ca, ta, ha⟩ := h.row n hn
  obtain ⟨cb, tb, hb⟩ := h.row m hm
  exact is_other _ _ ca cb ta tb w (fun e => hne (h.ne n hn m hm e)) ha hb
end Go.Proofs.YtmbdfoobnkanlaaDoor.errs

/-! ### The errors' numbers: amblernum's list, and Num. -/
namespace Go.Proofs.YtmbdfoobnkanlaaDoor.errs
open Go.RowKit

theorem gErrRange : Tryd.prog.globalNamed "ambler/api.ErrRange" = some 1 := by kernel_rfl
theorem gErrFull : Tryd.prog.globalNamed "ambler/api.ErrFull" = some 3 := by kernel_rfl
theorem gErrForm : Tryd.prog.globalNamed "ambler/api.ErrForm" = some 4 := by kernel_rfl
theorem gErrNone : Tryd.prog.globalNamed "ambler/api.ErrNone" = some 2 := by kernel_rfl
theorem gErrState : Tryd.prog.globalNamed "ambler/api.ErrState" = some 0 := by kernel_rfl
theorem gErrBadIter : Tryd.prog.globalNamed "ambler/api.ErrBadIter" = some 5 := by kernel_rfl
theorem gErrTooMany : Tryd.prog.globalNamed "ambler/api.ErrTooMany" = some 6 := by kernel_rfl
theorem gErrHash : Tryd.prog.globalNamed "ambler/api.ErrHash" = some 7 := by kernel_rfl
theorem gErrLong : Tryd.prog.globalNamed "ambler/api.ErrLong" = some 8 := by kernel_rfl
theorem gErrBroken : Tryd.prog.globalNamed "ambler/api.ErrBroken" = some 9 := by kernel_rfl
theorem gErrLimit : Tryd.prog.globalNamed "ambler/api.ErrLimit" = some 10 := by kernel_rfl
theorem gErrEmpty : Tryd.prog.globalNamed "ambler/api.ErrEmpty" = some 11 := by kernel_rfl
theorem gErrNumber : Tryd.prog.globalNamed "ambler/api.ErrNumber" = some 12 := by kernel_rfl
theorem gErrKind : Tryd.prog.globalNamed "ambler/api.ErrKind" = some 13 := by kernel_rfl
theorem gErrName : Tryd.prog.globalNamed "ambler/api.ErrName" = some 14 := by kernel_rfl
theorem gErrDup : Tryd.prog.globalNamed "ambler/api.ErrDup" = some 15 := by kernel_rfl
/-- the error of a number less one -/
def nm (i : Nat) : String := names.getD i ""
theorem nm_mem {i : Nat} (h : i < 16) : nm i ∈ names := by
  unfold nm; rw [List.getD_eq_getElem?_getD, List.getElem?_eq_getElem (by exact h)]; exact List.getElem_mem _
set_option maxRecDepth 10000 in
theorem nm_ne {i j : Nat} (hi : i < 16) (hj : j < 16) (h : i ≠ j) : nm i ≠ nm j := by
  have hn : names.Nodup := by decide
  unfold nm
  rw [List.getD_eq_getElem?_getD, List.getD_eq_getElem?_getD, List.getElem?_eq_getElem (by exact hi), List.getElem?_eq_getElem (by exact hj)]
  rcases Nat.lt_or_gt_of_ne h with h' | h'
  · exact List.pairwise_iff_getElem.1 hn i j hi hj h'
  · exact fun e => List.pairwise_iff_getElem.1 hn j i hj hi h' e.symm
theorem cases16 {i : Nat} (h : i < 16) : i = 0 ∨ i = 1 ∨ i = 2 ∨ i = 3 ∨ i = 4 ∨ i = 5 ∨ i = 6 ∨ i = 7 ∨ i = 8 ∨ i = 9 ∨ i = 10 ∨ i = 11 ∨ i = 12 ∨ i = 13 ∨ i = 14 ∨ i = 15 := by omega
theorem all_any (a : String → Addr) (w : World) (h : ErrsOk names a w) :
    Calls Tryd.prog 26 #[] w fun e w' => ∃ B, e = .returned (.slice (some ⟨B, 0, none⟩) 16 16) ∧ Below w.heap.size w w' ∧ ∀ i < 16, w'.cell? ⟨B, i, none⟩ = some (errV (a (nm i))) := by
  have c0 := h.at gErrRange (nm_mem (i := 0) (by decide))
  have c1 := h.at gErrFull (nm_mem (i := 1) (by decide))
  have c2 := h.at gErrForm (nm_mem (i := 2) (by decide))
  have c3 := h.at gErrNone (nm_mem (i := 3) (by decide))
  have c4 := h.at gErrState (nm_mem (i := 4) (by decide))
  have c5 := h.at gErrBadIter (nm_mem (i := 5) (by decide))
  have c6 := h.at gErrTooMany (nm_mem (i := 6) (by decide))
  have c7 := h.at gErrHash (nm_mem (i := 7) (by decide))
  have c8 := h.at gErrLong (nm_mem (i := 8) (by decide))
  have c9 := h.at gErrBroken (nm_mem (i := 9) (by decide))
  have c10 := h.at gErrLimit (nm_mem (i := 10) (by decide))
  have c11 := h.at gErrEmpty (nm_mem (i := 11) (by decide))
  have c12 := h.at gErrNumber (nm_mem (i := 12) (by decide))
  have c13 := h.at gErrKind (nm_mem (i := 13) (by decide))
  have c14 := h.at gErrName (nm_mem (i := 14) (by decide))
  have c15 := h.at gErrDup (nm_mem (i := 15) (by decide))
  go_enter Tryd.func26, Tryd.ntmps26
  go_wp2
  go_ret
  refine ⟨w.heap.size, rfl, (Below.refl _ _).alloc (Nat.le_refl _) _, fun i hi => ?_⟩
  rcases cases16 hi with rfl | rfl | rfl | rfl | rfl | rfl | rfl | rfl | rfl | rfl | rfl | rfl | rfl | rfl | rfl | rfl <;> (rw [World.cell?_alloc_new]; rfl)
theorem num_nil (w : World) :
    Calls Tryd.prog 7 #[.nilIface] w fun e w' => e = .returned (.int .i64 0) ∧ w = w' := by
  go_enter Tryd.func7, Tryd.ntmps7
  go_wp2
  go_ret
  exact ⟨rfl, rfl⟩
theorem num_at (a : String → Addr) (k : Nat) (hk : k < 16) (w : World) (h : ErrsOk names a w) :
    Calls Tryd.prog 7 #[errV (a (nm k))] w fun e w' => e = .returned (.int .i64 ((k + 1 : Nat) : Int)) ∧ Below w.heap.size w w' := by
  have hall := all_any a w h
  go_enter Tryd.func7, Tryd.ntmps7
  go_wp2_with (go_at_call 26; refine hall.mono ?_; rintro e w1 ⟨B, rfl, hb, hc⟩)
  go_loopw [9] (fun i wr => ∃ j : Nat, j ≤ k ∧ i = .int .i64 j ∧ wr = w1) (fun i _ => 16 - (intOf i).toNat)
  case atStart => exact ⟨0, by omega, rfl, rfl⟩
  case round =>
    obtain ⟨j, hj, rfl, rfl⟩ := hrel
    have hcj := hc j (by omega)
    have h1 : (j : Int) < 16 := by omega
    rcases Nat.lt_or_ge j k with hjk | hjk
    · have hI := is_not (h.below hb) (nm_mem hk) (nm_mem (i := j) (by omega)) (nm_ne hk (by omega) (by omega))
      go_wp2_with (go_at_call 27; refine hI.mono ?_; rintro e w2 ⟨rfl, rfl⟩)
      go_roundw
      case rel => exact ⟨j + 1, by omega, by simp, trivial⟩
      case measure => simp [intOf]; omega
    · obtain rfl : j = k := by omega
      have hI := is_same (a (nm j)) wr
      go_wp2_with (go_at_call 27; refine hI.mono ?_; rintro e w2 ⟨rfl, rfl⟩)
      go_ret
      exact ⟨by simp, hb⟩
end Go.Proofs.YtmbdfoobnkanlaaDoor.errs

/-! ### Ctrl: several texts in one: plain facts and laws for the walks. No program is named. -/
/-! ### The contracts of package ctrl's functions. -/
namespace Go.Proofs.YtmbdfoobnkanlaaDoor.ctrl
open Go.ChangeShapes Go.WideShapes Go.ChangeAt Go.RowKit swar

end Go.Proofs.YtmbdfoobnkanlaaDoor.ctrl

/-! ### Set and Text of package ctrl. -/
namespace Go.Proofs.YtmbdfoobnkanlaaDoor.ctrl
open Go.ChangeShapes Go.WideShapes Go.ChangeAt Go.RowKit swar
def sgB (b : Nat) : UInt8 := if b < 128 then 35 else if b = 128 then 46 else if b = 254 then 120 else 63
theorem sgB_nat (b : Nat) : ((sgB b).toNat : Int) = ((sgn b : Nat) : Int) := by unfold sgB sgn; split <;> (try split) <;> (try split) <;> rfl
/-- a word's signs -/
def textN (n : Nat) : ByteArray := ⟨#[sgB (ln n 0), sgB (ln n 1), sgB (ln n 2), sgB (ln n 3), sgB (ln n 4), sgB (ln n 5), sgB (ln n 6), sgB (ln n 7)]⟩
end Go.Proofs.YtmbdfoobnkanlaaDoor.ctrl
