/- LaidParts: several texts in one: plain facts and laws for the walks. No program is named. -/
import Derived.Test.YtmbdfoobnkanlaaDoorErrC
import Derived.MakeChecks
import Derived.Lib.LaidTab
import Derived.OpenShut
import Derived.ChangeSlices
import Derived.Deep.Slices
import Derived.Deep.Fields
import Derived.ChangeSame
import Derived.ProofKit
import Derived.WalkKit

/-! ### Laid: several texts in one: plain facts and laws for the walks. No program is named. -/
/-! ### From what a row lists to where the errors lie. -/
namespace Go.Proofs.YtmbdfoobnkanlaaDoor.errs
open Go.ChangeShapes Go.WideShapes Go.RowKit Go.ChangeAt
theorem star : "*" ++ "errors.errorString" = "*errors.errorString" := by decide
theorem rowE (u : TypeId) (h : Tryd.prog.typeName? 3 u = some "*errors.errorString") : u = 118 :=
  typeName_ptr_named (nm := "errors.errorString") (by rw [star]; kernel_rfl) (by kernel_rfl) (by decide) u (by rw [star]; exact h)
theorem cellsE : Tryd.prog.cellsOf 144 = 1 := by kernel_rfl
theorem cellsS : Tryd.prog.cellsOf 9 = 1 := by kernel_rfl
def textOf : DataW Unit → List UInt8
  | .iface _ (.ptr (.agg [.lit (.string s)])) => s
  | _ => []
/-- the names and the texts of a list -/
def pairs (l : List (String × DataW Unit)) : List (String × List UInt8) := l.map fun x => (x.1, textOf x.2)
theorem ofLaid {l : List (String × DataW Unit)} {W : World} (h : laidMetH Tryd.prog l W) (hp : (l.all fun x => x.2.handleName?.isNone) = true) (hl : (pairs l).map (sent.mkSent "*errors.errorString") = l)
    (hty : ((pairs l).all fun x => decide ((Tryd.prog.globalNamed x.1).bind (fun g => (Tryd.prog.globals[g]?).map (·.type)) = some 28)) = true) (hn : ((pairs l).map Prod.fst).Nodup) (ns : List String) (hns : ∀ n ∈ ns, n ∈ (pairs l).map Prod.fst) :
    ∃ a, ErrsOk ns a W := by
  rw [MakeChecks.laidMetH_plain _ _ _ hp] at h
  rw [← hl] at h
  obtain ⟨a, h1, h2⟩ := sent.sents Tryd.underlying28 rowE Tryd.underlying118 Tryd.underlying144 rfl rfl Tryd.underlying9 cellsE cellsS (pairs l) h (fun x hx => of_decide_eq_true (List.all_eq_true.1 hty x hx)) hn
  exact ⟨a, fun n hn => (h1 n (hns n hn)).1, fun n hn => (h1 n (hns n hn)).2, fun n hn m hm => h2 n (hns n hn) m (hns m hm)⟩
end Go.Proofs.YtmbdfoobnkanlaaDoor.errs

/-! ### From what a row lists to where the errors lie, behind a table that it lists first. -/
namespace Go.Proofs.YtmbdfoobnkanlaaDoor.errs
open Go.ChangeShapes Go.WideShapes Go.RowKit Go.ChangeAt
theorem laid_tail {P : Program} {x : String × DataW Unit} {r : List (String × DataW Unit)} {W : World} (h : laidMet P (x :: r) W) : laidMet P r W := by
  obtain ⟨ps, ⟨g, t, cs, fuel, p, q, _, _, _, _, hq, rfl⟩, hn, hc⟩ := h
  exact ⟨q, hq, (List.nodup_append.1 hn).2.1, fun b off hb => hc b off (List.mem_append_right _ hb)⟩
theorem plainOf {P : Program} {l : List (String × DataW Unit)} {W : World} (h : laidMetH P l W) (hp : (l.all fun x => x.2.handleName?.isNone) = true) : laidMet P l W := by
  rwa [MakeChecks.laidMetH_plain _ _ _ hp] at h
theorem ofTab {x : String × DataW Unit} {l : List (String × DataW Unit)} {W : World} (h : laidMetH Tryd.prog (x :: l) W) (hx : ((x :: l).all fun x => x.2.handleName?.isNone) = true) (hp : (l.all fun x => x.2.handleName?.isNone) = true) (hl : (pairs l).map (sent.mkSent "*errors.errorString") = l)
    (hty : ((pairs l).all fun x => decide ((Tryd.prog.globalNamed x.1).bind (fun g => (Tryd.prog.globals[g]?).map (·.type)) = some 28)) = true) (hn : ((pairs l).map Prod.fst).Nodup) (ns : List String) (hns : ∀ n ∈ ns, n ∈ (pairs l).map Prod.fst) :
    ∃ a, ErrsOk ns a W :=
  ofLaid (by rw [MakeChecks.laidMetH_plain _ _ _ hp]; exact laid_tail (plainOf h hx)) hp hl hty hn ns hns
end Go.Proofs.YtmbdfoobnkanlaaDoor.errs

/-! ### Opening an array of integers that is handed over by value. No program is named. -/
namespace Go.Proofs.YtmbdfoobnkanlaaDoor.opens
open Go.ChangeShapes Go.WideShapes Go.ChangeAt Go.RowKit
variable {H : Type} {enc : TypeId × Value → H} {P : Program} {w : World} {base : Nat} {spare : Nat → Bool} {held : Bool}

theorem drop_one (cs : List Value) (i : Nat) (h : i < cs.length) : (cs.drop (i * 1)).take 1 = [cs[i]] := by
  rw [Nat.mul_one, List.drop_eq_getElem_cons h]; rfl
theorem ints_of (k : IntKind) : ∀ (cs : List Value), (∀ i (h : i < cs.length), ∃ z, cs[i] = .int k z ∧ (Lit.int k z).wf = true) → ∃ zs : List Int, cs = zs.map (Value.int k) ∧ ∀ z ∈ zs, (Lit.int k z).wf = true
  | [], _ => ⟨[], rfl, fun _ h => by cases h⟩
  | c :: cs, h => by
    obtain ⟨z, hz, wz⟩ := h 0 (by simp)
    obtain ⟨zs, hzs, wzs⟩ := ints_of k cs (fun i hi => by have := h (i + 1) (by simpa using hi); simpa using this)
    simp only [List.getElem_cons_zero] at hz
    subst hz
    refine ⟨z :: zs, by simp [hzs], fun y hy => ?_⟩
    rcases List.mem_cons.1 hy with rfl | hy
    · exact wz
    · exact wzs y hy
/-- an array of integers by value: its numbers, each of its kind -/
theorem open_array_int {r : Reach} {b0 : Nat} {t e : TypeId} {n : Nat} {k : IntKind} {v : Value} {d : DataW H} {p : List MemPlace} (ht : P.underlying t = some (.array n e)) (he : P.underlying e = some (.int k)) (hce : P.cellsOf e = 1) (hct : P.cellsOf t = n)
    (hv : Value.okWide P w r b0 t v) (h : DataW.Trod enc P w base spare held t v d p) : ∃ zs : List Int, zs.length = n ∧ v = .agg ((zs.map (Value.int k)).toArray) ∧ ∀ z ∈ zs, (Lit.int k z).wf = true := by
  obtain ⟨cs, rfl, hsz, _⟩ : ∃ cs, v = .agg cs ∧ cs.size = P.cellsOf t ∧ Row.okWide P w r b0 t cs := by
    cases v <;> simp [Value.okWide, ht] at hv
    exact ⟨_, rfl, hv⟩
  obtain ⟨fuel, hf⟩ := h
  obtain ⟨xs, m, _, _, hl, hlen, hg⟩ := DataW.trod_array ht hf
  obtain ⟨cs⟩ := cs
  have hl' : cs.length = n := by rw [hct] at hl; simpa [Value.cells] using hl
  obtain ⟨zs, rfl, wzs⟩ := ints_of k cs (fun i hi => by
    have hi' : i < xs.length := by omega
    have h1 := hg i (by omega)
    rw [hce] at h1
    have e1 : (Value.agg ⟨cs⟩).cells.toList = cs := by simp [Value.cells]
    rw [e1, drop_one cs i hi, List.getElem?_eq_getElem hi'] at h1
    obtain ⟨z, ez, _, wz⟩ := DataW.trod_int he h1
    simp only [List.cons.injEq, and_true] at ez
    exact ⟨z, ez, wz⟩)
  exact ⟨zs, by simpa using hl', rfl, wzs⟩
/-- a slice of integers: its numbers, each of its kind -/
theorem open_ints_arg {r : Reach} {b0 : Nat} {t e : TypeId} {k : IntKind} {v : Value} {d : DataW H} {p : List MemPlace} (ht : P.underlying t = some (.slice e)) (he : P.underlying e = some (.int k)) (hce : P.cellsOf e = 1)
    (hv : Value.okWide P w r b0 t v) (h : DataW.Trod enc P w base spare held t v d p) : ∃ (s : Option Addr) (len cap : Nat) (zs : Nat → Int), v = .slice s len cap ∧ ∀ i, i < len → ∃ x, s = some x ∧ w.cell? (x.add i) = some (.int k (zs i)) ∧ (Lit.int k (zs i)).wf = true := by
  obtain ⟨s, len, cap, rfl⟩ : ∃ s len cap, v = .slice s len cap := by
    cases v with
    | slice s len cap => exact ⟨s, len, cap, rfl⟩
    | agg cs => simp [Value.okWide, Cell.okWide, Cell.ok, ht] at hv
    | _ => simp [Value.okWide, Cell.okWide, Cell.ok, ht] at hv
  obtain ⟨fuel, hf⟩ := h
  have hcs : (Value.slice s len cap).cells.toList = [.slice s len cap] := rfl
  rw [hcs] at hf
  rcases Go.ChangeShapes.open_ints ht he hce hf with ⟨h0, _⟩ | ⟨a, l, c, zs, h0, _, _, _, hz, _, hc, hw⟩
  · simp only [List.cons.injEq, Value.slice.injEq, and_true] at h0
    obtain ⟨rfl, rfl, rfl⟩ := h0
    exact ⟨none, 0, 0, fun _ => 0, rfl, fun i hi => by omega⟩
  · simp only [List.cons.injEq, Value.slice.injEq, and_true] at h0
    obtain ⟨rfl, rfl, rfl⟩ := h0
    have hl : len ≤ zs.length := by rw [hz]; split <;> omega
    refine ⟨some a, len, cap, fun i => zs.getD i 0, rfl, fun i hi => ⟨a, rfl, hc i (by omega), hw _ ?_⟩⟩
    show zs.getD i 0 ∈ zs
    rw [List.getD_eq_getElem?_getD, List.getElem?_eq_getElem (by omega)]; exact List.getElem_mem _
/-- a struct of integers by value: its fields' numbers, each of its kind -/
theorem open_struct_ints {r : Reach} {b0 : Nat} {t : TypeId} {fs : Array Field} {k : IntKind} {v : Value} {d : DataW H} {p : List MemPlace} (ht : P.underlying t = some (.struct fs))
    (hf : ∀ (i : Nat) (f : Field), fs[i]? = some f → P.underlying f.type = some (.int k) ∧ f.offset = i ∧ P.cellsOf f.type = 1) (hct : P.cellsOf t = fs.size)
    (hv : Value.okWide P w r b0 t v) (h : DataW.Trod enc P w base spare held t v d p) : ∃ zs : List Int, zs.length = fs.size ∧ v = .agg ((zs.map (Value.int k)).toArray) ∧ ∀ z ∈ zs, (Lit.int k z).wf = true := by
  obtain ⟨cs, rfl, hsz, _⟩ : ∃ cs, v = .agg cs ∧ cs.size = P.cellsOf t ∧ Row.okWide P w r b0 t cs := by
    cases v <;> simp [Value.okWide, ht] at hv
    exact ⟨_, rfl, hv⟩
  obtain ⟨fuel, hfu⟩ := h
  obtain ⟨xs, m, _, hx, hl, hxl, hall⟩ := DataW.trod_struct ht hfu
  obtain ⟨cs⟩ := cs
  have hl' : cs.length = fs.size := by rw [hct] at hl; simpa [Value.cells] using hl
  obtain ⟨zs, rfl, wzs⟩ := ints_of k cs (fun i hi => by
    have hi2 : i < fs.size := by omega
    obtain ⟨hu, ho, hc⟩ := hf i fs[i] (by simp [hi2])
    have h1 := hall i fs[i] (by simp [hi2])
    obtain ⟨b, hb⟩ : ∃ b, xs[i]? = some b := ⟨xs[i]'(by omega), List.getElem?_eq_getElem (by omega)⟩
    rw [hb, ho, hc] at h1
    have e1 : (Value.agg ⟨cs⟩).cells.toList = cs := by simp [Value.cells]
    rw [e1] at h1
    have e2 : (cs.drop i).take 1 = [cs[i]] := by have := drop_one cs i hi; rwa [Nat.mul_one] at this
    rw [e2] at h1
    obtain ⟨z, ez, _, wz⟩ := DataW.trod_int hu h1
    simp only [List.cons.injEq, and_true] at ez
    exact ⟨z, ez, wz⟩)
  exact ⟨zs, by simpa using hl', rfl, wzs⟩
/-- a slice of structs of integers: the fields' numbers, each of its kind -/
theorem open_structs_arg {r : Reach} {b0 : Nat} {t e : TypeId} {fs : Array Field} {k : IntKind} {v : Value} {d : DataW H} {p : List MemPlace} (ht : P.underlying t = some (.slice e)) (he : P.underlying e = some (.struct fs))
    (hf : ∀ (i : Nat) (f : Field), fs[i]? = some f → P.underlying f.type = some (.int k) ∧ f.offset = i ∧ P.cellsOf f.type = 1) (hce : P.cellsOf e = fs.size)
    (hv : Value.okWide P w r b0 t v) (h : DataW.Trod enc P w base spare held t v d p) :
    ∃ (s : Option Addr) (len cap : Nat) (z : Nat → Nat → Int), v = .slice s len cap ∧ ∀ i, i < len → ∀ j, j < fs.size → ∃ x, s = some x ∧ w.cell? (x.add (i * fs.size + j)) = some (.int k (z i j)) ∧ (Lit.int k (z i j)).wf = true := by
  obtain ⟨s, len, cap, rfl⟩ : ∃ s len cap, v = .slice s len cap := by
    cases v with
    | slice s len cap => exact ⟨s, len, cap, rfl⟩
    | agg cs => simp [Value.okWide, Cell.okWide, Cell.ok, ht] at hv
    | _ => simp [Value.okWide, Cell.okWide, Cell.ok, ht] at hv
  obtain ⟨fuel, hfu⟩ := h
  have hcs : (Value.slice s len cap).cells.toList = [.slice s len cap] := rfl
  rw [hcs] at hfu
  rcases Go.Deep.open_slice ht hfu with ⟨h0, _⟩ | ⟨a, l, c, m, n, D, Pl, h0, _, _, _, hm, _, hi⟩
  · simp only [List.cons.injEq, Value.slice.injEq, and_true] at h0
    obtain ⟨rfl, rfl, rfl⟩ := h0
    exact ⟨none, 0, 0, fun _ _ => 0, rfl, fun i h => by omega⟩
  · simp only [List.cons.injEq, Value.slice.injEq, and_true] at h0
    obtain ⟨rfl, rfl, rfl⟩ := h0
    have hl : len ≤ m := by rw [hm]; split <;> omega
    have hone : ∀ i j, i < len ∧ j < fs.size → ∃ z : Int, w.cell? (a.add (i * fs.size + j)) = some (.int k z) ∧ (Lit.int k z).wf = true := by
      intro i j ⟨hil, hjl⟩
      obtain ⟨cs', hc, ht'⟩ := hi i (Nat.lt_of_lt_of_le hil hl)
      rw [hce] at hc
      obtain ⟨ys, _, _, _, hlen, hyl, hfld⟩ := DataW.trod_struct he ht'
      obtain ⟨_, hcl, hat⟩ := World.cells?_some hc
      obtain ⟨hu, ho, hk1⟩ := hf j fs[j] (by simp [hjl])
      have hjc : j < cs'.length := by omega
      have h1 := hfld j fs[j] (by simp [hjl])
      obtain ⟨y, hy⟩ : ∃ y, ys[j]? = some y := ⟨ys[j]'(by omega), List.getElem?_eq_getElem (by omega)⟩
      have e2 : (cs'.drop j).take 1 = [cs'[j]] := by have := drop_one cs' j hjc; rwa [Nat.mul_one] at this
      rw [hy, ho, hk1, e2] at h1
      obtain ⟨z, ez, _, wz⟩ := DataW.trod_int hu h1
      simp only [List.cons.injEq, and_true] at ez
      have h2 := hat j hjl
      rw [Go.Deep.add_add, List.getElem?_eq_getElem hjc, ez] at h2
      exact ⟨z, h2, wz⟩
    refine ⟨some a, len, cap, fun i j => if hij : i < len ∧ j < fs.size then Classical.choose (hone i j hij) else 0, rfl, fun i hil j hjl => ⟨a, rfl, ?_⟩⟩
    simp only [dif_pos (And.intro hil hjl)]
    exact Classical.choose_spec (hone i j ⟨hil, hjl⟩)
theorem trod_float {t : TypeId} {k : FloatKind} {fuel : Nat} {cs : List Value} {x : DataW H × List MemPlace} (ht : P.underlying t = some (.float k)) (h : DataW.trod enc P w base spare held fuel t cs = some x) : ∃ n, cs = [.float k n] ∧ x = (.lit (.float k n), []) ∧ (Lit.float k n).wf = true := by
  cases fuel with
  | zero => simp [DataW.trod] at h
  | succ n =>
    unfold DataW.trod at h
    rw [ht] at h
    split at h <;> simp_all
theorem trod_bool {t : TypeId} {fuel : Nat} {cs : List Value} {x : DataW H × List MemPlace} (ht : P.underlying t = some .bool) (h : DataW.trod enc P w base spare held fuel t cs = some x) : ∃ n, cs = [.bool n] ∧ x = (.lit (.bool n), []) := by
  cases fuel with
  | zero => simp [DataW.trod] at h
  | succ n =>
    unfold DataW.trod at h
    rw [ht] at h
    split at h <;> simp_all
/-- what a cell of a scalar may hold -/
def intQ (k : IntKind) (v : Value) : Prop := ∃ z, v = .int k z ∧ (Lit.int k z).wf = true
def floatQ (k : FloatKind) (v : Value) : Prop := ∃ z, v = .float k z ∧ (Lit.float k z).wf = true
def boolQ (v : Value) : Prop := ∃ z, v = .bool z
def stringQ (v : Value) : Prop := ∃ s : ByteArray, v = .string s ∧ s.size ≤ maxLen
/-- a type of one cell that holds a scalar -/
def Scalar (enc : TypeId × Value → H) (P : Program) (w : World) (base : Nat) (spare : Nat → Bool) (held : Bool) (t : TypeId) (Q : Value → Prop) : Prop :=
  P.cellsOf t = 1 ∧ ∀ fuel cs x, DataW.trod enc P w base spare held fuel t cs = some x → ∃ v, cs = [v] ∧ Q v
theorem scalar_int {t : TypeId} {k : IntKind} (h1 : P.cellsOf t = 1) (ht : P.underlying t = some (.int k)) : Scalar enc P w base spare held t (intQ k) :=
  ⟨h1, fun _ _ _ h => by obtain ⟨z, e, _, wz⟩ := DataW.trod_int ht h; exact ⟨_, e, z, rfl, wz⟩⟩
theorem scalar_float {t : TypeId} {k : FloatKind} (h1 : P.cellsOf t = 1) (ht : P.underlying t = some (.float k)) : Scalar enc P w base spare held t (floatQ k) :=
  ⟨h1, fun _ _ _ h => by obtain ⟨z, e, _, wz⟩ := trod_float ht h; exact ⟨_, e, z, rfl, wz⟩⟩
theorem scalar_bool {t : TypeId} (h1 : P.cellsOf t = 1) (ht : P.underlying t = some .bool) : Scalar enc P w base spare held t boolQ :=
  ⟨h1, fun _ _ _ h => by obtain ⟨z, e, _⟩ := trod_bool ht h; exact ⟨_, e, z, rfl⟩⟩
theorem scalar_string {t : TypeId} (h1 : P.cellsOf t = 1) (ht : P.underlying t = some .string) : Scalar enc P w base spare held t stringQ :=
  ⟨h1, fun _ _ _ h => by obtain ⟨z, e, _, wz⟩ := DataW.trod_string ht h; exact ⟨_, e, z, rfl, wz⟩⟩
/-- a slice of structs of scalars, of whatever kinds -/
theorem open_scalars_arg {r : Reach} {b0 : Nat} {t e : TypeId} {fs : Array Field} {v : Value} {d : DataW H} {p : List MemPlace} (Q : Nat → Value → Prop) (ht : P.underlying t = some (.slice e)) (he : P.underlying e = some (.struct fs))
    (hf : ∀ (i : Nat) (f : Field), fs[i]? = some f → f.offset = i ∧ Scalar enc P w base spare held f.type (Q i)) (hce : P.cellsOf e = fs.size)
    (hv : Value.okWide P w r b0 t v) (h : DataW.Trod enc P w base spare held t v d p) :
    ∃ (s : Option Addr) (len cap : Nat) (z : Nat → Nat → Value), v = .slice s len cap ∧ ∀ i, i < len → ∃ x, s = some x ∧ ∀ j, j < fs.size → w.cell? (x.add (i * fs.size + j)) = some (z i j) ∧ Q j (z i j) := by
  obtain ⟨s, len, cap, rfl⟩ : ∃ s len cap, v = .slice s len cap := by
    cases v with
    | slice s len cap => exact ⟨s, len, cap, rfl⟩
    | agg cs => simp [Value.okWide, Cell.okWide, Cell.ok, ht] at hv
    | _ => simp [Value.okWide, Cell.okWide, Cell.ok, ht] at hv
  obtain ⟨fuel, hfu⟩ := h
  have hcs : (Value.slice s len cap).cells.toList = [.slice s len cap] := rfl
  rw [hcs] at hfu
  rcases Go.Deep.open_slice ht hfu with ⟨h0, _⟩ | ⟨a, l, c, m, n, D, Pl, h0, _, _, _, hm, _, hi⟩
  · simp only [List.cons.injEq, Value.slice.injEq, and_true] at h0
    obtain ⟨rfl, rfl, rfl⟩ := h0
    exact ⟨none, 0, 0, fun _ _ => undef, rfl, fun i h => by omega⟩
  · simp only [List.cons.injEq, Value.slice.injEq, and_true] at h0
    obtain ⟨rfl, rfl, rfl⟩ := h0
    have hl : len ≤ m := by rw [hm]; split <;> omega
    have hone : ∀ i j, i < len ∧ j < fs.size → ∃ z : Value, w.cell? (a.add (i * fs.size + j)) = some z ∧ Q j z := by
      intro i j ⟨hil, hjl⟩
      obtain ⟨cs', hc, ht'⟩ := hi i (Nat.lt_of_lt_of_le hil hl)
      rw [hce] at hc
      obtain ⟨ys, _, _, _, hlen, hyl, hfld⟩ := DataW.trod_struct he ht'
      obtain ⟨_, hcl, hat⟩ := World.cells?_some hc
      obtain ⟨ho, hk1, hsc⟩ := hf j fs[j] (by simp [hjl])
      have hjc : j < cs'.length := by omega
      have h1 := hfld j fs[j] (by simp [hjl])
      obtain ⟨y, hy⟩ : ∃ y, ys[j]? = some y := ⟨ys[j]'(by omega), List.getElem?_eq_getElem (by omega)⟩
      have e2 : (cs'.drop j).take 1 = [cs'[j]] := by have := drop_one cs' j hjc; rwa [Nat.mul_one] at this
      rw [hy, ho, hk1, e2] at h1
      obtain ⟨z, ez, hz⟩ := hsc _ _ _ h1
      simp only [List.cons.injEq, and_true] at ez
      have h2 := hat j hjl
      rw [Go.Deep.add_add, List.getElem?_eq_getElem hjc, ez] at h2
      exact ⟨z, h2, hz⟩
    refine ⟨some a, len, cap, fun i j => if hij : i < len ∧ j < fs.size then Classical.choose (hone i j hij) else undef, rfl, fun i hil => ⟨a, rfl, fun j hjl => ?_⟩⟩
    simp only [dif_pos (And.intro hil hjl)]
    exact Classical.choose_spec (hone i j ⟨hil, hjl⟩)
/-- a type of n cells, of each of which something is known -/
def Flat (enc : TypeId × Value → H) (P : Program) (w : World) (base : Nat) (spare : Nat → Bool) (held : Bool) (t : TypeId) (n : Nat) (Q : Nat → Value → Prop) : Prop :=
  P.cellsOf t = n ∧ ∀ fuel cs x, DataW.trod enc P w base spare held fuel t cs = some x → cs.length = n ∧ ∀ j v, cs[j]? = some v → Q j v
theorem flat_scalar {t : TypeId} {Q : Value → Prop} (h : Scalar enc P w base spare held t Q) : Flat enc P w base spare held t 1 (fun _ => Q) :=
  ⟨h.1, fun fuel cs x hx => by
    obtain ⟨v, rfl, hv⟩ := h.2 fuel cs x hx
    refine ⟨rfl, fun j u hj => ?_⟩
    cases j with
    | zero => simp at hj; subst hj; exact hv
    | succ j => simp at hj⟩
/-- a struct, by its fields -/
theorem flat_struct {t : TypeId} {fs : Array Field} {n : Nat} {Q : Nat → Value → Prop} (N : Nat → Nat) (Qs : Nat → Nat → Value → Prop) (ht : P.underlying t = some (.struct fs)) (hct : P.cellsOf t = n)
    (hf : ∀ (i : Nat) (f : Field), fs[i]? = some f → Flat enc P w base spare held f.type (N i) (Qs i))
    (hcov : ∀ c, c < n → ∃ i f j, fs[i]? = some f ∧ j < N i ∧ c = f.offset + j ∧ ∀ v, Qs i j v → Q c v) : Flat enc P w base spare held t n Q :=
  ⟨hct, fun fuel cs x hx => by
    obtain ⟨xs, m, _, _, hl, hxl, hall⟩ := DataW.trod_struct ht hx
    rw [hct] at hl
    refine ⟨hl, fun c v hc => ?_⟩
    have hcl : c < cs.length := (List.getElem?_eq_some_iff.1 hc).1
    obtain ⟨i, f, j, hfi, hj, rfl, hq⟩ := hcov c (by omega)
    have hil : i < fs.size := (Array.getElem?_eq_some_iff.1 hfi).1
    have h1 := hall i f hfi
    obtain ⟨y, hy⟩ : ∃ y, xs[i]? = some y := ⟨xs[i]'(by omega), List.getElem?_eq_getElem (by omega)⟩
    rw [hy] at h1
    obtain ⟨hk, hF⟩ := hf i f hfi
    obtain ⟨_, hat⟩ := hF _ _ _ h1
    refine hq v (hat j v ?_)
    rw [hk, List.getElem?_take, if_pos hj, List.getElem?_drop]
    exact hc⟩
/-- a slice of such -/
theorem open_flat_arg {r : Reach} {b0 : Nat} {t e : TypeId} {n : Nat} {v : Value} {d : DataW H} {p : List MemPlace} {Q : Nat → Value → Prop} (ht : P.underlying t = some (.slice e)) (he : ∀ spare, Flat enc P w base spare held e n Q)
    (hv : Value.okWide P w r b0 t v) (h : DataW.Trod enc P w base spare held t v d p) :
    ∃ (s : Option Addr) (len cap : Nat) (z : Nat → Nat → Value), v = .slice s len cap ∧ ∀ i, i < len → ∃ x, s = some x ∧ ∀ j, j < n → w.cell? (x.add (i * n + j)) = some (z i j) ∧ Q j (z i j) := by
  obtain ⟨s, len, cap, rfl⟩ : ∃ s len cap, v = .slice s len cap := by
    cases v with
    | slice s len cap => exact ⟨s, len, cap, rfl⟩
    | agg cs => simp [Value.okWide, Cell.okWide, Cell.ok, ht] at hv
    | _ => simp [Value.okWide, Cell.okWide, Cell.ok, ht] at hv
  obtain ⟨fuel, hfu⟩ := h
  have hcs : (Value.slice s len cap).cells.toList = [.slice s len cap] := rfl
  rw [hcs] at hfu
  rcases Go.Deep.open_slice ht hfu with ⟨h0, _⟩ | ⟨a, l, c, m, k, D, Pl, h0, _, _, _, hm, _, hi⟩
  · simp only [List.cons.injEq, Value.slice.injEq, and_true] at h0
    obtain ⟨rfl, rfl, rfl⟩ := h0
    exact ⟨none, 0, 0, fun _ _ => undef, rfl, fun i h => by omega⟩
  · simp only [List.cons.injEq, Value.slice.injEq, and_true] at h0
    obtain ⟨rfl, rfl, rfl⟩ := h0
    have hl : len ≤ m := by rw [hm]; split <;> omega
    have hone : ∀ i j, i < len ∧ j < n → ∃ z : Value, w.cell? (a.add (i * n + j)) = some z ∧ Q j z := by
      intro i j ⟨hil, hjl⟩
      obtain ⟨cs', hc, ht'⟩ := hi i (Nat.lt_of_lt_of_le hil hl)
      obtain ⟨hce, hF⟩ := he _
      rw [hce] at hc
      obtain ⟨hlen, hat'⟩ := hF _ _ _ ht'
      obtain ⟨_, hcl, hat⟩ := World.cells?_some hc
      have hjc : j < cs'.length := by omega
      have h2 := hat j hjl
      rw [Go.Deep.add_add, List.getElem?_eq_getElem hjc] at h2
      exact ⟨_, h2, hat' j _ (List.getElem?_eq_getElem hjc)⟩
    refine ⟨some a, len, cap, fun i j => if hij : i < len ∧ j < n then Classical.choose (hone i j hij) else undef, rfl, fun i hil => ⟨a, rfl, fun j hjl => ?_⟩⟩
    simp only [dif_pos (And.intro hil hjl)]
    exact Classical.choose_spec (hone i j ⟨hil, hjl⟩)
def floatOf : Value → Nat | .float _ q => q | _ => 0
def boolOf : Value → Bool | .bool q => q | _ => false
theorem list3 {α : Type} {l : List α} (h : l.length = 3) : ∃ a b c, l = [a, b, c] := by
  match l, h with
  | [a, b, c], _ => exact ⟨a, b, c, rfl⟩
theorem list2 {α : Type} {l : List α} (h : l.length = 2) : ∃ a b, l = [a, b] := by
  match l, h with
  | [a, b], _ => exact ⟨a, b, rfl⟩
theorem list5 {α : Type} {l : List α} (h : l.length = 5) : ∃ a b c d e, l = [a, b, c, d, e] := by
  match l, h with
  | [a, b, c, d, e], _ => exact ⟨a, b, c, d, e, rfl⟩
theorem list8 {α : Type} {l : List α} (h : l.length = 8) : ∃ a b c d e f g i, l = [a, b, c, d, e, f, g, i] := by
  match l, h with
  | [a, b, c, d, e, f, g, i], _ => exact ⟨a, b, c, d, e, f, g, i, rfl⟩
end Go.Proofs.YtmbdfoobnkanlaaDoor.opens

/-! ### Parts: a struct by value whose fields are of one cell each: numbers, truth values, slices of integers. No program is named. -/
namespace Go.Proofs.YtmbdfoobnkanlaaDoor.opens
open Go.ChangeShapes Go.WideShapes Go.ChangeAt Go.RowKit
variable {H : Type} {enc : TypeId × Value → H} {P : Program} {w : World} {base : Nat} {spare : Nat → Bool} {held : Bool}

/-- what is known of a part: it was trod as a value of its type -/
def Part (enc : TypeId × Value → H) (P : Program) (w : World) (base : Nat) (spare : Nat → Bool) (held : Bool) (t : TypeId) (c : Value) : Prop := ∃ fuel x, DataW.trod enc P w base spare held fuel t [c] = some x
theorem open_parts {r : Reach} {b0 : Nat} {t : TypeId} {fs : Array Field} {v : Value} {d : DataW H} {p : List MemPlace} (ht : P.underlying t = some (.struct fs))
    (hf : ∀ (i : Nat) (f : Field), fs[i]? = some f → f.offset = i ∧ P.cellsOf f.type = 1) (hct : P.cellsOf t = fs.size)
    (hv : Value.okWide P w r b0 t v) (h : DataW.Trod enc P w base spare held t v d p) : ∃ cs : List Value, v = .agg cs.toArray ∧ cs.length = fs.size ∧ ∀ (i : Nat) (f : Field) (c : Value), fs[i]? = some f → cs[i]? = some c → Part enc P w base spare held f.type c := by
  obtain ⟨cs, rfl, hsz, _⟩ : ∃ cs, v = .agg cs ∧ cs.size = P.cellsOf t ∧ Row.okWide P w r b0 t cs := by
    cases v <;> simp [Value.okWide, ht] at hv
    exact ⟨_, rfl, hv⟩
  obtain ⟨fuel, hfu⟩ := h
  obtain ⟨xs, m, _, hx, hl, hxl, hall⟩ := DataW.trod_struct ht hfu
  obtain ⟨cs⟩ := cs
  have hl' : cs.length = fs.size := by rw [hct] at hl; simpa [Value.cells] using hl
  refine ⟨cs, rfl, hl', fun i f c hi hc => ?_⟩
  have hi2 : i < fs.size := (Array.getElem?_eq_some_iff.1 hi).1
  obtain ⟨ho, hc1⟩ := hf i f hi
  have h1 := hall i f hi
  obtain ⟨b, hb⟩ : ∃ b, xs[i]? = some b := ⟨xs[i]'(by omega), List.getElem?_eq_getElem (by omega)⟩
  rw [hb, ho, hc1] at h1
  have e1 : (Value.agg ⟨cs⟩).cells.toList = cs := by simp [Value.cells]
  rw [e1] at h1
  have hic : i < cs.length := by omega
  have e2 : (cs.drop i).take 1 = [cs[i]] := by have := drop_one cs i hic; rwa [Nat.mul_one] at this
  rw [e2] at h1
  have e3 : cs[i] = c := by rw [List.getElem?_eq_getElem hic] at hc; exact Option.some.inj hc
  rw [e3] at h1
  exact ⟨_, _, h1⟩
theorem part_int {t : TypeId} {k : IntKind} {c : Value} (ht : P.underlying t = some (.int k)) (h : Part enc P w base spare held t c) : ∃ z, c = .int k z ∧ (Lit.int k z).wf = true := by
  obtain ⟨fuel, x, hx⟩ := h
  obtain ⟨z, ez, _, wz⟩ := DataW.trod_int ht hx
  simp only [List.cons.injEq, and_true] at ez
  exact ⟨z, ez, wz⟩
theorem part_bool {t : TypeId} {c : Value} (ht : P.underlying t = some .bool) (h : Part enc P w base spare held t c) : ∃ z, c = .bool z := by
  obtain ⟨fuel, x, hx⟩ := h
  obtain ⟨z, ez, _⟩ := trod_bool ht hx
  simp only [List.cons.injEq, and_true] at ez
  exact ⟨z, ez⟩
theorem part_ints {t e : TypeId} {k : IntKind} {c : Value} (ht : P.underlying t = some (.slice e)) (he : P.underlying e = some (.int k)) (hce : P.cellsOf e = 1) (h : Part enc P w base spare held t c) :
    ∃ (s : Option Addr) (len cap : Nat) (zs : Nat → Int), c = .slice s len cap ∧ ∀ i, i < len → ∃ x, s = some x ∧ w.cell? (x.add i) = some (.int k (zs i)) ∧ (Lit.int k (zs i)).wf = true := by
  obtain ⟨fuel, x, hx⟩ := h
  rcases Go.ChangeShapes.open_ints ht he hce hx with ⟨h0, _⟩ | ⟨a, l, c', zs, h0, _, _, _, hz, _, hc, hw⟩
  · simp only [List.cons.injEq, and_true] at h0
    exact ⟨none, 0, 0, fun _ => 0, h0, fun i hi => by omega⟩
  · simp only [List.cons.injEq, and_true] at h0
    have hl : l ≤ zs.length := by rw [hz]; split <;> omega
    refine ⟨some a, l, c', fun i => zs.getD i 0, h0, fun i hi => ⟨a, rfl, hc i (by omega), hw _ ?_⟩⟩
    show zs.getD i 0 ∈ zs
    rw [List.getD_eq_getElem?_getD, List.getElem?_eq_getElem (by omega)]; exact List.getElem_mem _
theorem cells5 {cs : List Value} (h : cs.length = 5) : ∃ a b c d e, cs = [a, b, c, d, e] := by
  match cs, h with
  | [a, b, c, d, e], _ => exact ⟨a, b, c, d, e, rfl⟩
theorem cells7 {cs : List Value} (h : cs.length = 7) : ∃ a b c d e f g, cs = [a, b, c, d, e, f, g] := by
  match cs, h with
  | [a, b, c, d, e, f, g], _ => exact ⟨a, b, c, d, e, f, g, rfl⟩
end Go.Proofs.YtmbdfoobnkanlaaDoor.opens
