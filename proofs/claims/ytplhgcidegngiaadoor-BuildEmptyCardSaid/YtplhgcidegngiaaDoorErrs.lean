/- The errors of package api as the program finds them: errors.Is of one and another, and their numbers by the document's table (amblernum.Num). -/
import Derived.Test.YtplhgcidegngiaaDoorRows
import Derived.Test.YtplhgcidegngiaaDoorSent
import Derived.WalkKit
import Derived.ProofKit
import Derived.BigQuiet
import Derived.LaidEql
import Derived.Stop.Asserts
import Derived.RowKitTokens
import Derived.LoopN
import Derived.Outline
namespace Go.Proofs.YtplhgcidegngiaaDoor.errs
open Go.RowKit Go.Extern.Stop Go.Stop Go.Extern

/-- the value of the error that lies at a place -/
abbrev errV (x : Addr) : Value := .iface 143 (.pointer (some x))

/-! ### closed facts: what errors.Is asks of such a target -/
theorem isTypeOf (v : Value) (w : World) : (Extern.ReflectliteType.typeOf #[.iface 143 v]).run Tryd.prog w = .ok (.iface 119 (.agg #[.pointer (some ⟨17, 143, none⟩)])) w := by kernel_rfl
def cmpOf : Array Value → Sem Value := Extern.ReflectliteType.method fun t => do Go.Extern.Rtype.noPackHeld "Comparable" t; pure (.bool (← typeInfo t).comparable)
theorem cmpRun (w : World) : (cmpOf #[.agg #[.pointer (some ⟨17, 143, none⟩)]]).run Tryd.prog w = .ok (.bool true) w := by kernel_rfl
theorem isComparable (w : World) : (callFunc 107 #[.agg #[.pointer (some ⟨17, 143, none⟩)]]).run Tryd.prog w = .ok (Next.value (.bool true)) w := by
  have h := @run_callFunc_extern Tryd.prog 107 _ cmpOf Tryd.func107 (by kernel_rfl) (by kernel_rfl) (by kernel_rfl) (by kernel_rfl) #[.agg #[.pointer (some ⟨17, 143, none⟩)]] w
  rw [h, cmpRun]; rfl
theorem isMethodComparable (v : Value) (w : World) : (Go.method 280 119 v "Comparable").run Tryd.prog w = .ok (107, v) w := by kernel_rfl
theorem isComp : (Tryd.prog.info? 143).map (·.comparable) = some true := by kernel_rfl
theorem isSize : (Tryd.prog.info? 168).map (·.size) = some 1 := by kernel_rfl
theorem noIsE (v : Value) (xT : TypeId) (w : World) : (Instr.typeAssert (.iface 143 v) xT 121 true).run Tryd.prog w = .ok (.tuple #[.nilIface, .bool false]) w := run_typeAssert_lacksB Tryd.underlying121 (by kernel_rfl) (by kernel_rfl) v xT w
theorem noUnwrapE (v : Value) (xT : TypeId) (w : World) : (Instr.typeAssert (.iface 143 v) xT 124 true).run Tryd.prog w = .ok (.tuple #[.nilIface, .bool false]) w := run_typeAssert_lacksB Tryd.underlying124 (by kernel_rfl) (by kernel_rfl) v xT w
theorem noUnwrapsE (v : Value) (xT : TypeId) (w : World) : (Instr.typeAssert (.iface 143 v) xT 126 true).run Tryd.prog w = .ok (.tuple #[.nilIface, .bool false]) w := run_typeAssert_lacksB Tryd.underlying126 (by kernel_rfl) (by kernel_rfl) v xT w

/-- errors.Is of an error and itself -/
theorem is_same (a : Addr) (w : World) :
    Calls Tryd.prog 30 #[errV a, errV a] w fun e w' => e = .returned (.bool true) ∧ w = w' := by
  obtain ⟨i, hi, hcmp⟩ := Option.map_eq_some_iff.1 isComp
  obtain ⟨j, hj, hjs⟩ := Option.map_eq_some_iff.1 isSize
  have h8 := @run_callFunc_extern Tryd.prog 48 _ Extern.ReflectliteType.typeOf Tryd.func48 (by kernel_rfl) (by kernel_rfl) (by kernel_rfl) (by kernel_rfl)
  have tT := isTypeOf
  have cT := isComparable
  have mR := isMethodComparable
  have heq := run_eql_iface_ptr_same (P := Tryd.prog) w a Tryd.underlying26 Tryd.underlying143 hi hcmp hj
  go_enter Tryd.func30, Tryd.ntmps30
  go_wp2
  refine wp_loop_rounds 1 ?_
  rw [rounds_succ]
  go_wp2
  go_ret
  exact ⟨rfl, rfl⟩
/-- errors.Is of two errors -/
theorem is_other (a b : Addr) (ca cb : Array Value) (ta tb : TypeId) (w : World) (hne : a ≠ b) (ha : w.heap[a.block]? = some (.cells ca ta (0, 0))) (hb : w.heap[b.block]? = some (.cells cb tb (0, 0))) :
    Calls Tryd.prog 30 #[errV a, errV b] w fun e w' => e = .returned (.bool false) ∧ w = w' := by
  obtain ⟨i, hi, hcmp⟩ := Option.map_eq_some_iff.1 isComp
  obtain ⟨j, hj, hjs⟩ := Option.map_eq_some_iff.1 isSize
  have h8 := @run_callFunc_extern Tryd.prog 48 _ Extern.ReflectliteType.typeOf Tryd.func48 (by kernel_rfl) (by kernel_rfl) (by kernel_rfl) (by kernel_rfl)
  have tT := isTypeOf
  have cT := isComparable
  have mR := isMethodComparable
  have nE := noIsE
  have uE := noUnwrapE
  have vE := noUnwrapsE
  have heq := run_eql_iface_ptr_other (P := Tryd.prog) w Tryd.underlying26 Tryd.underlying143 hi hcmp hj (by rw [hjs]; decide) hne ha hb
  go_enter Tryd.func30, Tryd.ntmps30
  go_wp2
  refine wp_loop_rounds 1 ?_
  rw [rounds_succ]
  go_wp2
  go_ret
  exact ⟨rfl, rfl⟩

/-- the errors' variables by their numbers, from 1 on -/
def names : List String := ["ambler/api.ErrRange", "ambler/api.ErrFull", "ambler/api.ErrForm", "ambler/api.ErrNone", "ambler/api.ErrState", "ambler/api.ErrBadIter", "ambler/api.ErrTooMany", "ambler/api.ErrHash", "ambler/api.ErrLong", "ambler/api.ErrBroken", "ambler/api.ErrLimit", "ambler/api.ErrEmpty", "ambler/api.ErrNumber", "ambler/api.ErrKind", "ambler/api.ErrName", "ambler/api.ErrDup"]
/-- the listed errors lie in their variables, each at a place of its own -/
structure ErrsOk (ns : List String) (a : String → Addr) (w : World) : Prop where
  cell : ∀ n ∈ ns, ∃ g, Tryd.prog.globalNamed n = some g ∧ w.cell? ⟨g, 0, none⟩ = some (errV (a n))
  row : ∀ n ∈ ns, ∃ c t, w.heap[(a n).block]? = some (.cells c t (0, 0))
  ne : ∀ n ∈ ns, ∀ m ∈ ns, a n = a m → n = m
theorem ErrsOk.at {ns : List String} {a : String → Addr} {w : World} (h : ErrsOk ns a w) {n : String} {g : Nat} (hg : Tryd.prog.globalNamed n = some g) (hn : n ∈ ns) : w.cell? ⟨g, 0, none⟩ = some (errV (a n)) := by
  obtain ⟨g', hg', hc⟩ := h.cell n hn
  obtain rfl := Option.some.inj (hg.symm.trans hg')
  exact hc
theorem ErrsOk.below {ns : List String} {a : String → Addr} {w w' : World} (h : ErrsOk ns a w) (hb : Below w.heap.size w w') : ErrsOk ns a w' := by
  refine ⟨fun n hn => ?_, fun n hn => ?_, h.ne⟩
  · obtain ⟨g, hg, hc⟩ := h.cell n hn
    exact ⟨g, hg, (hb.cell (p := ⟨g, 0, none⟩) (World.block_lt_of_cell? w _ hc)).trans hc⟩
  · obtain ⟨c, t, hr⟩ := h.row n hn
    have hlt : (a n).block < w.heap.size := by
      rcases Nat.lt_or_ge (a n).block w.heap.size with h' | h'
      · exact h'
      · simp [Array.getElem?_eq_none h'] at hr
    exact ⟨c, t, (hb.block _ hlt).trans hr⟩
theorem ErrsOk.drewN {ns : List String} {a : String → Addr} {w : World} (h : ErrsOk ns a w) (q : Nat) : ErrsOk ns a (w.drewN q) := ⟨h.cell, h.row, h.ne⟩
theorem ErrsOk.mono {ns ns' : List String} {a : String → Addr} {w : World} (h : ErrsOk ns a w) (hs : ∀ n ∈ ns', n ∈ ns) : ErrsOk ns' a w := ⟨fun n hn => h.cell n (hs n hn), fun n hn => h.row n (hs n hn), fun n hn m hm => h.ne n (hs n hn) m (hs m hm)⟩
/-- errors.Is of two of them -/
theorem is_not {ns : List String} {a : String → Addr} {w : World} (h : ErrsOk ns a w) {n m : String} (hn : n ∈ ns) (hm : m ∈ ns) (hne : n ≠ m) :
    Calls Tryd.prog 30 #[errV (a n), errV (a m)] w fun e w' => e = .returned (.bool false) ∧ w = w' := by
  obtain ⟨ca, ta, ha⟩ := h.row n hn
  obtain ⟨cb, tb, hb⟩ := h.row m hm
  exact is_other _ _ ca cb ta tb w (fun e => hne (h.ne n hn m hm e)) ha hb
end Go.Proofs.YtplhgcidegngiaaDoor.errs
