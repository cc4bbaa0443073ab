/- SoundB: several texts in one: plain facts and laws for the walks. No program is named. -/
import Derived.Test.YteedbnoefnlidaaGreatDoorSoundA
import Derived.Test.YteedbnoefnlidaaGreatDoorMeter
import Derived.LoopTactic
import Derived.Maps.OwnIn
import Derived.Maps.Views
import Derived.Test.YteedbnoefnlidaaGreatDoorProbeDoc

/-! ### sound: looks; Look; Check. -/
namespace Go.Proofs.YteedbnoefnlidaaGreatDoor.sound
open Go.ChangeShapes Go.WideShapes Go.ChangeAt Go.RowKit Go.Shelf swar under trap meter group probe lens tail call table
attribute [local go_sem] Oper.semAt_some stage.pureUpon move.stepUpon
set_option linter.unusedSimpArgs false
set_option linter.unusedVariables false

theorem see_last (B o : Nat) (m : Mt) {k : Nat} (hp : m.pl = k) : ∀ c, k + c ≤ 1099511627776 → ((Ln.pr B o).see m c).pl = ((k + c : Nat) : Int)
  | 0, _ => hp
  | c + 1, h => by
    have h1 := see_last B o m hp c (by omega)
    rw [Ln.see_succ]
    show sm ((Ln.pr B o).see m c).pl 1 = _
    rw [h1, sm_add (by omega) (by omega) (by omega)]; omega
theorem fld0 (a b c : Int) (w : World) : (Instr.field 38 (.agg #[.int .i64 a, .int .i64 b, .int .i64 c]) 0).run Tryz.prog w = .ok (.int .i64 a) w := by kernel_rfl
/-! ### Look -/
theorem KpD.own {W W' : World} {row : Option Nat} (hg : W.grownBy W' row) (hr : ∀ r, row = some r → ∃ o : Obj, W.heap[r]? = some o ∧ o.isCells = false) : KpD [] W W' :=
  ⟨hg.size, fun k o _ hk hc => (hg.block k (Array.getElem?_eq_some_iff.1 hk).1 fun e => by
    obtain ⟨o', h1, h2⟩ := hr k e.symm
    rw [hk] at h1; cases h1; rw [hc] at h2; cases h2).trans hk⟩
theorem ShBox.kp {X a b c d e f : Nat} {W W' : World} {l : List Nat} (h : ShBox X a b c d e f W) (hk : KpD l W W') (hX : X ∉ l) : ShBox X a b c d e f W' := ⟨hk.same X _ hX h.row rfl⟩
theorem szTab : (Tryz.prog.info? 129).map (·.size) = some 3 := by kernel_rfl
theorem ptr_tab (x : Addr) (w : World) : (Op.equalIn 10000 77 (.pointer (some x)) (.pointer none)).run Tryz.prog w = .ok false w := by
  obtain ⟨j, hj, _⟩ := Option.map_eq_some_iff.1 szTab
  have h : ∀ d : Nat, (Op.equalIn (d + 1) 77 (.pointer (some x)) (.pointer none)).run Tryz.prog w = .ok false w := fun d => by
    simp [Op.equalIn, run_underlying Tryz.underlying77, sizeOf, typeInfo, hj, sameAddr]
  exact h 9999
/-- within Look: the box of t, the result's, the shape's -/
structure LkI (ae : String → Addr) (T B : Nat) (t : Tb) (Bt : Nat) (w : World) (X S a b c d e f : Nat) (W : World) : Prop where
  it : It ae T B t Bt W
  xt : W.cell? ⟨X, 0, none⟩ = some (.pointer (some ⟨T, 0, none⟩))
  r : ShBox (X + 1) 0 0 0 0 0 0 W
  s : ShBox S a b c d e f W
  bel : Below w.heap.size w W
section
variable {ae : String → Addr} {T B : Nat} {t : Tb} {Bt : Nat} {w : World} {X S a b c d e f : Nat} {W W' : World}
theorem LkI.keep (h : LkI ae T B t Bt w X S a b c d e f W) (hb : Below W.heap.size W W') : LkI ae T B t Bt w X S a b c d e f W' := ⟨h.it.below hb, keepc hb h.xt, h.r.keep hb, h.s.keep hb, under.below_step h.bel hb⟩
theorem LkI.own (h : LkI ae T B t Bt w X S a b c d e f W) (hn : okN t.n) {row : Option Nat} {B0 : Nat} (hB0 : w.heap.size ≤ B0) (hg : W.grownBy W' row) (hr : ∀ r, row = some r → B0 ≤ r ∧ ∃ o : Obj, W.heap[r]? = some o ∧ o.isCells = false) : LkI ae T B t Bt w X S a b c d e f W' := by
  have k := KpD.own hg fun r e => (hr r e).2
  exact ⟨h.it.kp k (by simp) (by simp) (by simp) (fun b hb => by cases hb) hn, k.cell h.xt (by simp), h.r.kp k (by simp), h.s.kp k (by simp), h.bel.grown hg h.bel.size fun r e => by have := (hr r e).1; omega⟩
theorem LkI.put {a' b' c' d' e' f' : Nat} (h : LkI ae T B t Bt w X S a b c d e f W) (hn : okN t.n) (i : Nat) (u : Value) (hs : ShBox S a' b' c' d' e' f' (W.setCell ⟨S, i, none⟩ u)) (h1 : w.heap.size ≤ S) (hX : X ≠ S) (hX1 : X + 1 ≠ S) (hT : T ≠ S) (hB : B ≠ S) (hBt : Bt ≠ S) (hf : Far [S]) : LkI ae T B t Bt w X S a' b' c' d' e' f' (W.setCell ⟨S, i, none⟩ u) := by
  have p : Past [S] W (W.setCell ⟨S, i, none⟩ u) := (Past.refl [S] W).store (p := ⟨S, i, none⟩) (.inl (by simp)) _
  have k := KpD.of p
  exact ⟨h.it.kp k (by simpa using hT) (by simpa using hB) (by simpa using hBt) hf hn, k.cell h.xt (by simpa using hX), h.r.other hX1 _ _, hs, tail.bset h.bel _ _ h1 _⟩
end
def lkF (t : Tb) (l : List (Fin (ents t t.n).length)) : List Nat := l.map fun x => table.looks t (entN t x).key (entN t x).hash
theorem lkF_snoc (t : Tb) (l : List (Fin (ents t t.n).length)) (x : Fin (ents t t.n).length) : lkF t (l ++ [x]) = lkF t l ++ [table.looks t (entN t x).key (entN t x).hash] := by simp [lkF]
theorem lkF_all (t : Tb) : lkF t (List.finRange (ents t t.n).length) = lks t (ents t t.n) := by
  unfold lkF lks
  have e : (List.finRange (ents t t.n).length).map (entN t) = ents t t.n := by
    apply List.ext_getElem
    · simp
    · intro i h1 h2; simp [entN]
  conv => rhs; rw [← e]
  rw [List.map_map]; rfl
theorem lkF_sum (t : Tb) (l : List (Fin (ents t t.n).length)) : (lkF t l).sum ≤ t.n * l.length := by
  have := sum_le (n := t.n) (l := lkF t l) fun x hx => by
    obtain ⟨e, _, rfl⟩ := List.mem_map.1 hx
    exact looks_le t _ _
  simpa [lkF] using this
theorem ents_512 {t : Tb} (h : t.Ok) : (ents t t.n).length ≤ 512 := by
  rw [ents_length]
  have := cntT_le 3 t
  have := okN_le h.n
  omega
/-- what the return leaves -/
theorem lk_ret {R a b c d e f : Nat} {w W : World} (h : ShBox R 0 0 0 0 0 0 W) (hB : Below w.heap.size w W) (hR : w.heap.size ≤ R) (D : Nat) (hD : w.heap.size ≤ D) (hK : W.heap[D]? = some (.deferred (some []))) (W' : World)
    (hW : W' = ((((((W.setCell ⟨R, 0, none⟩ (.int .i64 (a : Nat))).setCell ⟨R, 1, none⟩ (.int .i64 (b : Nat))).setCell ⟨R, 2, none⟩ (.int .i64 (c : Nat))).setCell ⟨R, 3, none⟩ (.int .i64 (d : Nat))).setCell ⟨R, 4, none⟩ (.int .i64 (e : Nat))).setCell ⟨R, 5, none⟩ (.int .i64 (f : Nat)))) :
    W'.heap[D]? = some (.deferred (some [])) ∧ ShBox R a b c d e f (W'.putObj D (.deferred none)) ∧ Below w.heap.size w (W'.putObj D (.deferred none)) := by
  have hb : Below w.heap.size w W' := by
    rw [hW]; exact bset (bset (bset (bset (bset (bset hB _ _ hR _) _ _ hR _) _ _ hR _) _ _ hR _) _ _ hR _) _ _ hR _
  have hne : D ≠ R := fun e => by subst e; rw [h.row] at hK; cases hK
  have hs : ShBox R a b c d e f W' := by rw [hW]; exact (((((h.set0 a).set1 b).set2 c).set3 d).set4 e).set5 f
  have hD' : W'.heap[D]? = some (.deferred (some [])) := by
    have o : ∀ (X : World) (i : Nat) (v : Value), (X.setCell ⟨R, i, none⟩ v).heap[D]? = X.heap[D]? := fun X i v => Below.heap_setCell _ _ _ _ hne
    rw [hW, o, o, o, o, o, o]; exact hK
  exact ⟨hD', ⟨(World.putObj_heap_other fun e => hne e.symm).trans hs.row⟩, hb.grown (grownBy_putObj' _ D (.deferred none)) hb.size (fun r e => by cases e; exact hD)⟩
abbrev shapeOf (t : Tb) : Value := shV (cntT 3 t) (cntT 2 t) (cntT 1 t) (oc t t.n) (mx (lks t (ents t t.n))) (lks t (ents t t.n)).sum
end Go.Proofs.YteedbnoefnlidaaGreatDoor.sound

/-! ### sound: findsEachOnce, Check. -/
namespace Go.Proofs.YteedbnoefnlidaaGreatDoor.sound
open Go.ChangeShapes Go.WideShapes Go.ChangeAt Go.RowKit Go.Shelf swar under trap meter group probe lens tail call table
open Go.Maps (Keyed)
attribute [local go_sem] Oper.semAt_some stage.pureUpon move.stepUpon
set_option linter.unusedSimpArgs false
set_option linter.unusedVariables false

theorem key64 : Keyed Tryz.prog 41 := Maps.int_keyed Tryz.underlying41
theorem zeroB (w : World) : (zeroValue 4).run Tryz.prog w = .ok (.bool false) w := by kernel_rfl
theorem wf64 (k : Nat) (h : k < 18446744073709551616) : (Lit.int .u64 (k : Int)).wf = true := WalkArith.wf_u64 ⟨by omega, by omega⟩
set_option maxRecDepth 100000 in
theorem bool_inv {H : Type} {v : Value} {z : DataW H × List MemPlace} (h : plainElem Tryz.prog 4 v = some z) : ∃ x, v = .bool x ∧ z.1 = .lit (.bool x) := by
  unfold plainElem at h
  rw [Tryz.underlying4] at h
  cases v <;> simp at h
  exact ⟨_, rfl, by rw [← h]⟩
def keys (t : Tb) (pre : List (Fin (ents t t.n).length)) : List Nat := pre.map fun x => (entN t x).key
/-- the map holds the keys of the entries that have come -/
def SeenM (t : Tb) (pre : List (Fin (ents t t.n).length)) (b : Nat) (W : World) : Prop :=
  ∃ D : DataW Unit, Maps.IsMap D ∧ W.ownsMap Tryz.prog 41 (plainElem Tryz.prog 4) b pre.length D ∧ ∀ k : Nat, D.atKey (.int .u64 (k : Int)) (.lit (.bool false)) = .lit (.bool (decide (k ∈ keys t pre)))
theorem SeenM.new (t : Tb) (w : World) : SeenM t [] w.heap.size (w.alloc (.map #[] 0)) :=
  ⟨.map [], Maps.isMap_empty, World.ownsMap_made _ _ _ _, fun k => by simp [keys, DataW.atKey]⟩
theorem SeenM.kept {t : Tb} {pre : List (Fin (ents t t.n).length)} {b : Nat} {W W' : World} {row : Option Nat} (h : SeenM t pre b W) (hg : W.grownBy W' row) (hne : some b ≠ row) : SeenM t pre b W' := by
  obtain ⟨D, h1, h2, h3⟩ := h
  exact ⟨D, h1, h2.kept hg hne, h3⟩
theorem SeenM.obj {t : Tb} {pre : List (Fin (ents t t.n).length)} {b : Nat} {W : World} (h : SeenM t pre b W) : ∃ o : Obj, W.heap[b]? = some o ∧ o.isCells = false := by
  obtain ⟨D, h1, ⟨es, clock, hb, _⟩, h3⟩ := h
  exact ⟨_, hb, rfl⟩
theorem SeenM.look {t : Tb} {pre : List (Fin (ents t t.n).length)} {b : Nat} {W : World} (h : SeenM t pre b W) (k : Nat) (hk : k < 18446744073709551616) :
    (Instr.lookup 189 (.map (some b)) (.int .u64 (k : Int)) false).run Tryz.prog W = .ok (.bool (decide (k ∈ keys t pre))) W := by
  obtain ⟨D, h1, h2, h3⟩ := h
  obtain ⟨v, ps, hrun, hv⟩ := h2.lookup key64 Tryz.underlying189 (zeroB _) (plainElem_bool Tryz.underlying4 false) (Maps.keyOf_int_mk Tryz.underlying41 (wf64 k hk))
  obtain ⟨x, rfl, hx⟩ := bool_inv hv
  rw [h3 k] at hx
  simp only [DataW.lit.injEq, Lit.bool.injEq] at hx
  rw [hrun, hx]
theorem SeenM.step {t : Tb} {pre : List (Fin (ents t t.n).length)} {x : Fin (ents t t.n).length} {b : Nat} {W' : World} {D : DataW Unit} (h1 : Maps.IsMap D) (h3 : ∀ k : Nat, D.atKey (.int .u64 (k : Int)) (.lit (.bool false)) = .lit (.bool (decide (k ∈ keys t pre))))
    (h2 : W'.ownsMap Tryz.prog 41 (plainElem Tryz.prog 4) b (pre.length + 1) (D.put (.int .u64 (((entN t x).key : Nat) : Int)) (.lit (.bool true)))) : SeenM t (pre ++ [x]) b W' := by
  refine ⟨_, h1.put _ _, by rw [List.length_append]; exact h2, fun k => ?_⟩
  by_cases e : k = (entN t x).key
  · rw [e, Maps.atKey_put_same h1 (show WideAt.IsKeyLit (Lit.int .u64 _) from trivial)]
    simp [keys]
  · rw [Maps.atKey_put_other (by intro h; injection h with _ h; omega), h3 k]
    simp [keys, e]
theorem keys_ne {H : Nat → Nat} {t : Tb} (h : Inv H t) {x y : Fin (ents t t.n).length} (hne : x ≠ y) : (entN t x).key ≠ (entN t y).key := by
  have hp := List.pairwise_iff_getElem.1 (ents_keys h)
  rcases Nat.lt_or_ge x.val y.val with h1 | h1
  · exact hp x.val y.val x.isLt y.isLt h1
  · have : y.val < x.val := by
      rcases Nat.lt_or_ge y.val x.val with h2 | h2
      · exact h2
      · exact absurd (Fin.ext (by omega)) hne
    exact fun e => hp y.val x.val y.isLt x.isLt this e.symm
/-- of the entries in their order no key comes twice -/
theorem keys_new {H : Nat → Nat} {t : Tb} (h : Inv H t) {pre : List (Fin (ents t t.n).length)} {x : Fin (ents t t.n).length} (hp : pre ++ [x] <+: List.finRange (ents t t.n).length) : (entN t x).key ∉ keys t pre := by
  intro hm
  obtain ⟨y, hy, e⟩ := List.mem_map.1 hm
  have hnd : (pre ++ [x]).Nodup := List.Sublist.nodup hp.sublist (List.nodup_finRange _)
  rw [List.nodup_append] at hnd
  have hne : y ≠ x := hnd.2.2 y hy x (by simp)
  exact keys_ne h hne e
/-- within findsEachOnce -/
structure CkI (ae : String → Addr) (T B : Nat) (t : Tb) (w : World) (X : Nat) (pre : List (Fin (ents t t.n).length)) (W : World) : Prop where
  it : It ae T B t (X + 1 + 1 + 1 + 1) W
  xt : W.cell? ⟨X, 0, none⟩ = some (.pointer (some ⟨T, 0, none⟩))
  r : W.cell? ⟨X + 1, 0, none⟩ = some (.bool false)
  rf : W.frozen? ⟨X + 1, 0, none⟩ = false
  sb : W.cell? ⟨X + 1 + 1 + 1, 0, none⟩ = some (.map (some (X + 1 + 1)))
  sn : SeenM t pre (X + 1 + 1) W
  bel : Below w.heap.size w W
section
variable {ae : String → Addr} {T B : Nat} {t : Tb} {w : World} {X : Nat} {pre : List (Fin (ents t t.n).length)} {W W' : World}
theorem CkI.move (h : CkI ae T B t w X pre W) (hn : okN t.n) {pre' : List (Fin (ents t t.n).length)} (k : KpD [] W W') (hs : SeenM t pre' (X + 1 + 1) W') (hb : Below w.heap.size w W') : CkI ae T B t w X pre' W' :=
  ⟨h.it.kp k (by simp) (by simp) (by simp) (fun b hb => by cases hb) hn, k.cell h.xt (by simp), k.cell h.r (by simp), (World.frozen?_of_block (w := W) (k.block h.r (by simp))).trans h.rf, k.cell h.sb (by simp), hs, hb⟩
theorem CkI.keep (h : CkI ae T B t w X pre W) (hn : okN t.n) (hb : Below W.heap.size W W') : CkI ae T B t w X pre W' := h.move hn (KpD.of (Past.of hb)) (h.sn.kept (grown_of hb) (by simp)) (under.below_step h.bel hb)
theorem CkI.own (h : CkI ae T B t w X pre W) (hn : okN t.n) {row : Option Nat} {B0 : Nat} (hX : w.heap.size ≤ X) (hB0 : X + 5 ≤ B0) (hg : W.grownBy W' row) (hr : ∀ r, row = some r → B0 ≤ r ∧ ∃ o : Obj, W.heap[r]? = some o ∧ o.isCells = false) : CkI ae T B t w X pre W' :=
  h.move hn (KpD.own hg fun r e => (hr r e).2) (h.sn.kept hg fun e => by have := (hr _ e.symm).1; omega) (h.bel.grown hg h.bel.size fun r e => by have := (hr r e).1; omega)
end
set_option maxRecDepth 100000 in
set_option maxHeartbeats 4000000 in
theorem finds_any {ae : String → Addr} {T B : Nat} {t : Tb} {w : World} {H : Nat → Nat} (h : Ready ae T B t .nil Mt.zero w) (hI : Inv H t) :
    Calls Tryz.prog 81 #[.pointer (some ⟨T, 0, none⟩)] w fun e w' => e = .returned (.bool true) ∧ Below w.heap.size w w' := by
  have hok := h.ok
  have hmm := @run_makeMap Tryz.prog
  refine (callsIn_wide (n := 3)).1 (callsIn_of_wp_marks Tryz.func81 rfl trivial ?_ rfl)
  simp only [Tryz.ntmps81, List.size_toArray, List.length_cons, List.length_nil, Nat.reduceAdd, Nat.reduceSub, Array.replicate_succ, Array.replicate_zero, List.push_toArray, List.append_toArray, List.nil_append, List.cons_append]
  refine wpIn_wide.2 ?_
  go_wp2_with (first
    | (go_at_call 121; (with_reducible refine (entries_fn _ _).mono ?_); rintro e w' ⟨rfl, rfl⟩))
  have hb2 := two_new w (.cells #[.pointer (some ⟨T, 0, none⟩)] 77) (.cells #[.bool false] 4)
  have hz1 := World.size_alloc w (.cells #[.pointer (some ⟨T, 0, none⟩)] 77)
  have x0 := newc w (.pointer (some ⟨T, 0, none⟩)) 77
  have r0 := newc (w.alloc (.cells #[.pointer (some ⟨T, 0, none⟩)] 77)) (.bool false) 4
  have rf := newf (w.alloc (.cells #[.pointer (some ⟨T, 0, none⟩)] 77)) (.bool false) 4
  have x1 := keepc (new_block (w.alloc (.cells #[.pointer (some ⟨T, 0, none⟩)] 77)) (.cells #[.bool false] 4)) x0
  rw [hz1] at r0 rf
  have hz2 := World.size_alloc (w.alloc (.cells #[.pointer (some ⟨T, 0, none⟩)] 77)) (.cells #[.bool false] 4)
  rw [hz1] at hz2
  generalize (w.alloc (.cells #[.pointer (some ⟨T, 0, none⟩)] 77)).alloc (.cells #[.bool false] 4) = w2 at *
  have hb3 := new_block w2 (.map #[] 0)
  have hsn := SeenM.new t w2
  have hz3 := World.size_alloc w2 (.map #[] 0)
  rw [hz2] at hsn hz3
  generalize w2.alloc (.map #[] 0) = w3 at *
  have hb4 := new_block w3 (.cells #[.map (some (w.heap.size + 1 + 1))] 189)
  have sb := newc w3 (.map (some (w.heap.size + 1 + 1))) 189
  have hz4 := World.size_alloc w3 (.cells #[.map (some (w.heap.size + 1 + 1))] 189)
  rw [hz3] at sb hz4
  generalize w3.alloc (.cells #[.map (some (w.heap.size + 1 + 1))] 189) = w4 at *
  have hb5 := new_block w4 (.cells #[.pointer (some ⟨T, 0, none⟩)] 77)
  have bt := newc w4 (.pointer (some ⟨T, 0, none⟩)) 77
  have hz5 := World.size_alloc w4 (.cells #[.pointer (some ⟨T, 0, none⟩)] 77)
  rw [hz4] at bt hz5
  generalize w4.alloc (.cells #[.pointer (some ⟨T, 0, none⟩)] 77) = W0 at *
  have hb34 := under.below_step hb3 hb4
  have hb25 := under.below_step hb34 hb5
  have hC : CkI ae T B t w w.heap.size [] W0 :=
    ⟨⟨(h.below hb2).below hb25, bt⟩, keepc hb25 x1, keepc hb25 r0, keepf hb25 r0 rf, keepc hb5 sb, (hsn.kept (grown_of hb4) (by simp)).kept (grown_of hb5) (by simp), under.below_step hb2 hb25⟩
  have h512 := ents_512 hok
  have HI := Lib.hid hI
  clear hb2 hb3 hb4 hb5 hb34 hb25 bt sb hsn x0 x1 r0 rf hz1 hz2 hz3 hz4 h hI hmm
  generalize hXe : w.heap.size = X at *
  refine (wpIn_wide (n := 3)).1 ?_
  refine (wpIn_rangeFunc_ownH (F := Fence.wide) (n := 3) rfl (by decide) (gf := 164) (lb := #[.pointer (some ⟨X + 1 + 1 + 1 + 1, 0, none⟩)]) rfl trivial (enters_of Tryz.func164 (by kernel_rfl) rfl)
    (ents_stops 2 (by decide) (X + 1 + 1 + 1 + 1) T B t ae [] (by simp) (by simp) (by simp) (fun b hb => by cases hb) W0 (fun b hb => by cases hb) hC.it) KpD.trans (fun W l o o' _ h1 h2 _ => KpD.put W l o o' h1 h2) (Below.refl _ _) (fun _ => rfl)
    (fun pre W => CkI ae T B t w X pre W)
    (fun c pre W => c = .ret ∧ ¬ pre <+: List.finRange (ents t t.n).length)
    ?hI (fun _ _ _ _ _ hs _ _ => hs) hC
    (fun x a' W => ∃ E, W.heap[E]? = some (.cells #[.int .u64 ((entN t x).key : Nat), .int .u64 ((entN t x).val : Nat), .int .u64 ((entN t x).hash : Nat)] 43 (0, 0)) ∧
      a' = { tmps := #[.pointer (some ⟨T, 0, none⟩), .pointer (some ⟨X, 0, none⟩), .pointer (some ⟨X + 1, 0, none⟩), .pointer (some ⟨X + 1 + 1 + 1, 0, none⟩), .pointer (some ⟨E, 0, none⟩), undef, undef, .map (some (X + 1 + 1)), .pointer (some ⟨T, 0, none⟩), .func (.func 164) #[] #[.pointer (some ⟨X + 1 + 1 + 1 + 1, 0, none⟩)], group.entV (entN t x).key (entN t x).val (entN t x).hash, undef, undef, undef, undef, undef, undef, undef, undef, undef, undef, undef, undef, undef, undef, undef, undef, undef, undef, undef, undef, undef, undef, undef, undef, undef, undef], defers := [] })
    ?hAx ?assign ?body ?done ?stop)
  case hI =>
    intro s A B' row hs hg hr
    exact hs.own hok.n (by omega) (by omega) hg hr
  case hAx =>
    rintro x a' s A B' row ⟨E, h2, h3⟩ hg hr
    exact ⟨E, (KpD.own hg fun r e => (hr r e).2).same E _ (by simp) h2 rfl, h3⟩
  case assign =>
    intro l pre x W K hI hK
    have hb := new_block W (.cells #[.int .u64 ((entN t x).key : Nat), .int .u64 ((entN t x).val : Nat), .int .u64 ((entN t x).hash : Nat)] 43)
    have hr := World.alloc_heap_new W (.cells #[.int .u64 ((entN t x).key : Nat), .int .u64 ((entN t x).val : Nat), .int .u64 ((entN t x).hash : Nat)] 43)
    gi_wp2
    exact hK _ _ (keeps_from (Past.of (d := []) hb) (by simp)) (KpD.of (Past.of hb)) (hI.keep hok.n hb) ⟨_, hr, rfl⟩
  case body =>
    rintro l pre x a' W hl _ hI ⟨E, hr, rfl⟩ hlen
    have hx := ents_ok hok (e := entN t x) (List.getElem_mem _)
    have hf := ents_found HI.out (e := entN t x) (List.getElem_mem _)
    have cF := find_tab hI.it.rd (entN t x).key (entN t x).hash hx.1.key hx.1.hash
    rw [hf.1, hf.2] at cF
    simp only [Ln.p] at cF
    have HN := Lib.hid (show (entN t x).key ∈ keys t pre → ¬ pre ++ [x] <+: List.finRange (ents t t.n).length from fun hin hp => keys_new HI.out hp hin)
    have y0 : W.cell? ⟨E, 0, none⟩ = some (.int .u64 ((entN t x).key : Nat)) := by rw [cell_of_row _ _ _ _ _ _ hr]; rfl
    have y1 : W.cell? ⟨E, 1, none⟩ = some (.int .u64 ((entN t x).val : Nat)) := by rw [cell_of_row _ _ _ _ _ _ hr]; rfl
    have y2 : W.cell? ⟨E, 2, none⟩ = some (.int .u64 ((entN t x).hash : Nat)) := by rw [cell_of_row _ _ _ _ _ _ hr]; rfl
    have hk64 := hx.1.key
    have HS := Lib.hid (fun D W' h1 h3 h2 => SeenM.step (t := t) (pre := pre) (x := x) (b := X + 1 + 1) (W' := W') (D := D) h1 h3 h2)
    have y3 := hI.xt
    have HC := Lib.hid hI
    have HL := Lib.hid (fun W' (h : SeenM t pre (X + 1 + 1) W') => h.look (entN t x).key hk64)
    have hb7f : ∀ w6, LnStep [] Ln.nil (Ln.nil.see Mt.zero (table.looks t (entN t x).key (entN t x).hash)) W w6 → Below W.heap.size W (w6.alloc (.cells #[.int .u64 ((entN t x).key : Nat), .int .u64 ((entN t x).val : Nat), .int .u64 ((entN t x).hash : Nat)] 43)) := fun w6 hs =>
      under.below_step (hs.past.below (Nat.le_refl _) (by simp [Ln.d])) (new_block w6 _)
    have HB7 := Lib.hid hb7f
    clear hI hr hx hf hb7f
    generalize table.looks t (entN t x).key (entN t x).hash = lk at *
    by_cases hin : (entN t x).key ∈ keys t pre
    · have HP := Lib.hid (HN.out hin)
      rw [decide_eq_true hin] at HL
      clear HN hin HS
      generalize (entN t x).key = ek at *
      generalize (entN t x).val = ev at *
      generalize (entN t x).hash = eh at *
      gi_wp2_with (refine ⟨trivial, ?_⟩; gi_at_call 60; refine (CallsIn.inRound _ (callsIn_wide.2 cF)).mono ?_; rintro e w6 ⟨rfl, hs6⟩; have hb7 := HB7.out w6 hs6; have C7 := Lib.hid (HC.out.keep hok.n hb7); have z0 := keepc hb7 y0; have z1 := keepc hb7 y1; have z2 := keepc hb7 y2; have z3 := C7.out.sb; have zl := HL.out _ C7.out.sn; have zr := C7.out.r; have zf := C7.out.rf)
      exact ⟨(keeps_from (Past.of (d := []) hb7) (by simp)).trans ((KeepsOthers.setCell _ _ _).from _), rfl, HP.out⟩
    · rw [decide_eq_false hin] at HL
      clear HN hin
      generalize (entN t x).key = ek at *
      generalize (entN t x).val = ev at *
      generalize (entN t x).hash = eh at *
      have hlm : pre.length < maxLen := by unfold maxLen; omega
      gi_wp2_with (first
        | (refine ⟨trivial, ?_⟩; gi_at_call 60; refine (CallsIn.inRound _ (callsIn_wide.2 cF)).mono ?_; rintro e w6 ⟨rfl, hs6⟩; have hb7 := HB7.out w6 hs6; have C7 := Lib.hid (HC.out.keep hok.n hb7); have z0 := keepc hb7 y0; have z1 := keepc hb7 y1; have z2 := keepc hb7 y2; have z3 := C7.out.sb; have zl := HL.out _ C7.out.sn; obtain ⟨D, d1, d2, d3⟩ := C7.out.sn; have HD := Lib.hid (And.intro d1 d3); clear d1 d3)
        | (gi_at_mapUpdate; refine wpListIn_mapUpdate_own _ rfl _ _ _ 189 rfl 41 4 key64 Tryz.underlying189 _ (X + 1 + 1) pre.length D rfl d2 hlm _ _ (.int .u64 (ek : Int)) rfl rfl (Maps.keyOf_int_mk Tryz.underlying41 (wf64 ek hk64)) _ [] (plainElem_bool Tryz.underlying4 true) ?_; intro w8 hown8 hgrow8))
      refine ⟨(keeps_from (Past.of (d := []) hb7) (by simp)).trans (KeepsFrom.of_grownBy hgrow8 (fun j e => by cases e; omega)), (KpD.of (Past.of hb7)).trans (KpD.own hgrow8 (fun r e => by cases e; exact C7.out.sn.obj)), ?_⟩
      exact C7.out.move hok.n (KpD.own hgrow8 (fun r e => by cases e; exact C7.out.sn.obj)) (HS.out D w8 HD.out.1 HD.out.2 hown8) (C7.out.bel.grown hgrow8 C7.out.bel.size (fun r e => by cases e; omega))
  case done =>
    rintro D ys W hD rfl hI hK
    have k1 := hI.r
    have k2 := hI.rf
    have HI := Lib.hid hI
    clear hI
    go_wp2
    obtain ⟨e1, e2, e3⟩ := probe.once_end HI.out.bel HI.out.r (by omega) (by omega) (fun e => by
      obtain ⟨o, h1, h2⟩ := cells_of HI.out.r
      rw [← e] at h1
      rw [hK] at h1; cases h1; cases h2) hK
    refine ⟨by simp, .inl ⟨_, _, rfl, run_takeDeferred e1, ?_⟩⟩
    refine ⟨.bool true, ?_, rfl, e3⟩
    simp [results, Tryz.f81, go_sem, e2]
  case stop =>
    rintro D c pre W hD hpre ⟨_, hn⟩ hK
    exact absurd hpre hn
theorem check_any {ae : String → Addr} {T B : Nat} {t : Tb} {w : World} {H : Nat → Nat} (h : Ready ae T B t .nil Mt.zero w) (hI : Inv H t) :
    Calls Tryz.prog 44 #[.pointer (some ⟨T, 0, none⟩)] w fun e w' => e = .returned .nilIface ∧ Below w.heap.size w w' := by
  have c1 := counts_any T B t h.ok w h.at'
  have c2 := fun W (hb : Below w.heap.size w W) => finds_any (h.below hb) hI
  have hpt := ptr_tab ⟨T, 0, none⟩
  go_enter Tryz.func44, Tryz.ntmps44
  go_wp2_with (first
    | (go_at_call 80; refine c1.mono ?_; rintro e w1 ⟨rfl, hb1⟩)
    | (go_at_call 81; refine (c2 _ hb1).mono ?_; rintro e w2 ⟨rfl, hb2⟩))
  go_ret
  exact ⟨rfl, under.below_step hb1 hb2⟩
theorem ptr_none (w : World) : (Op.equalIn 10000 77 (.pointer none) (.pointer none)).run Tryz.prog w = .ok true w := by
  obtain ⟨j, hj, _⟩ := Option.map_eq_some_iff.1 szTab
  have h : ∀ d : Nat, (Op.equalIn (d + 1) 77 (.pointer none) (.pointer none)).run Tryz.prog w = .ok true w := fun d => by
    simp [Op.equalIn, run_underlying Tryz.underlying77, sizeOf, typeInfo, hj, sameAddr]
  exact h 9999
theorem check_nil (w : World) (x : Addr) (hr : w.cell? ⟨4, 0, none⟩ = some (errs.errV x)) :
    Calls Tryz.prog 44 #[.pointer none] w fun e w' => e = .returned (errs.errV x) ∧ Below w.heap.size w w' := by
  have hpt := ptr_none
  go_enter Tryz.func44, Tryz.ntmps44
  go_wp2
  go_ret
  exact ⟨rfl, Below.refl _ _⟩
end Go.Proofs.YteedbnoefnlidaaGreatDoor.sound

/-! ### sound: Path. -/
namespace Go.Proofs.YteedbnoefnlidaaGreatDoor.sound
open Go.ChangeShapes Go.WideShapes Go.ChangeAt Go.RowKit Go.Shelf swar under trap meter group probe lens tail call table
attribute [local go_sem] Oper.semAt_some stage.pureUpon move.stepUpon
set_option linter.unusedSimpArgs false
set_option linter.unusedVariables false

theorem row_base {w : World} {base base' : Nat} {e : TypeId} {size n : Nat} {v : Value} {xs : List Value} (h : w.ownsRow base e size v n xs) (hb : base' ≤ base) : w.ownsRow base' e size v n xs := by
  refine ⟨h.1, ?_⟩
  rcases h.2 with h2 | ⟨g, cap, cur, h1, h2, h3, h4⟩
  · exact .inl h2
  · exact .inr ⟨g, cap, cur, h1, Nat.le_trans hb h2, h3, h4⟩
/-- within Path: what lay ahead of the loop lies as it did, but the path's box; the path so far -/
structure PkI (n : Nat) (w W0 : World) (Pb : Nat) (pre : List (Fin n)) (W : World) : Prop where
  fr : ∀ b, b < W0.heap.size → b ≠ Pb → W.heap[b]? = W0.heap[b]?
  sz : W0.heap.size ≤ W.heap.size
  pb : ∃ v, Boxed W Pb 23 v ∧ W.ownsRow W0.heap.size 3 1 v pre.length ((pre.map Fin.val).map probe.enc) ∧ (v = .slice none 0 0 ↔ pre = [])
  bel : Below w.heap.size w W
section
variable {n : Nat} {w W0 : World} {Pb : Nat} {pre : List (Fin n)} {W W' : World}
theorem PkI.cell (h : PkI n w W0 Pb pre W) {p : Addr} {v : Value} (hp : p.block < W0.heap.size) (hne : p.block ≠ Pb) (hc : W0.cell? p = some v) : W.cell? p = some v := (World.cell?_of_block (w := W0) (h.fr p.block hp hne)).trans hc
theorem PkI.own (h : PkI n w W0 Pb pre W) {row : Option Nat} (hw : w.heap.size ≤ W0.heap.size) (hP : Pb < W0.heap.size) (hg : W.grownBy W' row) (hr : ∀ r, row = some r → W0.heap.size ≤ r ∧ ∃ o : Obj, W.heap[r]? = some o ∧ o.isCells = false) : PkI n w W0 Pb pre W' := by
  obtain ⟨v, h1, h2, h3⟩ := h.pb
  have h4 := holdsRow_own W0.heap.size Pb 23 3 1 (fun (pre : List (Fin n)) => pre.length) (fun (pre : List (Fin n)) => (pre.map Fin.val).map probe.enc) (fun pre v => v = .slice none 0 0 ↔ pre = []) pre W W' row ⟨v, h1, h2, h3⟩ hg (fun r e => (hr r e).2)
  exact ⟨fun b hb hne => (hg.block b (Nat.lt_of_lt_of_le hb h.sz) fun e => by have := (hr b e.symm).1; omega).trans (h.fr b hb hne), Nat.le_trans h.sz hg.size, h4, h.bel.grown hg h.bel.size fun r e => by have := (hr r e).1; omega⟩
theorem PkI.read (h : PkI n w W0 Pb pre W) (hw : w.heap.size ≤ W0.heap.size) (hP : Pb < W0.heap.size) (hb : Below W.heap.size W W') : PkI n w W0 Pb pre W' := h.own hw hP (grown_of hb) (fun r e => by cases e)
/-- the path is longer by one -/
theorem PkI.next (h : PkI n w W0 Pb pre W) (hw : w.heap.size ≤ W0.heap.size) (hP : Pb < W0.heap.size) (hwP : w.heap.size ≤ Pb) {x : Fin n} {v v' : Value} {w1 : World} {tmp : Obj} (hv : Boxed W Pb 23 v) (hrow : W.ownsRow W0.heap.size 3 1 v pre.length ((pre.map Fin.val).map probe.enc))
    (hown' : w1.ownsRow W0.heap.size 3 1 v' (pre.length + 1) ((pre.map Fin.val).map probe.enc ++ [.int .i64 (x.val : Nat)])) (hgrow : (W.alloc tmp).grownBy w1 v.ownBlock) :
    Boxed w1 Pb 23 v ∧ KeepsOthers W (w1.setCell ⟨Pb, 0, none⟩ v') ∧ PkI n w W0 Pb (pre ++ [x]) (w1.setCell ⟨Pb, 0, none⟩ v') := by
  obtain ⟨hv1, hv2, hr2, hk2, hb2⟩ := hv.appended (by decide) (row_base hrow (Nat.le_of_lt hP)) (Nat.le_trans (Nat.le_of_lt hP) h.sz) (Nat.le_refl _) (row_base hown' (Nat.le_of_lt hP)) hgrow
  have hge : ∀ r, v.ownBlock = some r → W0.heap.size ≤ r := fun r e => (World.ownsRow.lt (w := W) hrow r e).1
  have P : Past [Pb] w1 (w1.setCell ⟨Pb, 0, none⟩ v') := (Past.refl [Pb] w1).store (p := ⟨Pb, 0, none⟩) (.inl (by simp)) _
  refine ⟨hv1, hk2, fun b hb hne => ?_, Nat.le_trans h.sz hb2.size, ⟨v', hv2, ?_, ?_⟩, h.bel.trans (hb2.mono hwP)⟩
  · rw [Below.heap_setCell _ _ _ _ (show b ≠ Pb from hne), hgrow.block b (by simp; have := h.sz; omega) (fun e => by have := hge b e.symm; omega), Below.heap_alloc _ _ _ (by have := h.sz; omega)]
    exact h.fr b hb hne
  · have := row_past hown' P (fun b hb => by obtain rfl : b = Pb := by simpa using hb
                                             exact hP)
    simpa [probe.enc] using this
  · obtain ⟨g, c, rfl⟩ := ownsRow_succ hown'
    simp
end
def TxF (o : Option Addr) (l : List ByteArray) (G : Nat) (W : World) : Prop := ∀ j (hj : j < l.length), ∃ x, o = some x ∧ (x.add j).block < G ∧ W.cell? (x.add j) = some (.string l[j])
end Go.Proofs.YteedbnoefnlidaaGreatDoor.sound
