/- A region that draws its order and ends in stores: the operations ahead of them in one walk, over a class of worlds, in the text's order; then the rest, from whatever world of the class. No program is named. -/
import Derived.Deep.Quiet
import Derived.Test.YtgpfhgkphadgkaaDoorUnder
import Derived.StillTail
import Derived.Below
import Derived.BigQuiet
import Derived.Deep.QuietTactic
import Derived.WalkKit
namespace Go.Proofs.YtgpfhgkphadgkaaDoor.tail
open Go Go.RowKit
variable {P : Program} {ops : Array Oper} {md : Region.Mode} {C : World → Prop}

/-- which of the first n operations wait for operation i, at once or by way of others -/
def ups (md : Region.Mode) (ops : Array Oper) (i : Nat) : Nat → Array Bool
  | 0 => #[]
  | n + 1 => (ups md ops i n).push (n == i || ((ops[n]?).map fun o => o.after.any fun e => Region.binds md e && (ups md ops i n).getD e.on false).getD false)
theorem ups_size (i : Nat) : ∀ n, (ups md ops i n).size = n
  | 0 => rfl
  | n + 1 => by simp [ups, ups_size i n]
theorem push_lt (x : Array Bool) (b : Bool) (t : Nat) (h : t < x.size) : (x.push b).getD t false = x.getD t false := by
  rw [Array.getD_eq_getD_getElem?, Array.getD_eq_getD_getElem?, Array.getElem?_push, if_neg (by omega)]
theorem push_eq (x : Array Bool) (b : Bool) (t : Nat) (h : x.size = t) : (x.push b).getD t false = b := by
  rw [Array.getD_eq_getD_getElem?, Array.getElem?_push, if_pos h.symm]; rfl
/-- whoever waits for i is i itself or waits for one of them -/
theorem ups_edge (i : Nat) : ∀ (n t : Nat), (ups md ops i n).getD t false = true → t = i ∨ ∃ o, ops[t]? = some o ∧ ∃ e ∈ o.after, Region.binds md e = true ∧ e.on < t ∧ ∃ m, (ups md ops i m).getD e.on false = true
  | 0, t, h => by simp [ups] at h
  | n + 1, t, h => by
    have hs := ups_size (md := md) (ops := ops) i n
    rcases Nat.lt_trichotomy t n with h' | h' | h'
    · refine ups_edge i n t ?_
      unfold ups at h
      rw [push_lt _ _ _ (by rw [hs]; exact h')] at h
      exact h
    · subst h'
      unfold ups at h
      rw [push_eq _ _ _ hs] at h
      simp only [Bool.or_eq_true, beq_iff_eq] at h
      rcases h with h | h
      · exact .inl h
      · cases ho : ops[t]? with
        | none => simp [ho] at h
        | some o =>
          rw [ho] at h
          simp only [Option.map_some, Option.getD_some] at h
          obtain ⟨e, he, hb⟩ := Array.any_eq_true'.1 h
          simp only [Bool.and_eq_true] at hb
          refine .inr ⟨o, rfl, e, he, hb.1, ?_, t, hb.2⟩
          rcases Nat.lt_or_ge e.on t with h4 | h4
          · exact h4
          · have h5 := hb.2
            rw [Array.getD_eq_getD_getElem?, Array.getElem?_eq_none (by rw [hs]; exact h4)] at h5; cases h5
    · rw [Array.getD_eq_getD_getElem?, Array.getElem?_eq_none (by rw [ups_size]; omega)] at h; simp at h
/-- what has come up has had come up what it waits for -/
def Closed (md : Region.Mode) (ops : Array Oper) (listed : Array Bool) : Prop := ∀ j oj, ops[j]? = some oj → listed.getD j false = true → ∀ e ∈ oj.after, Region.binds md e = true → listed.getD e.on false = true
theorem ups_un {i : Nat} {listed : Array Bool} (hc : Closed md ops listed) (hi : listed.getD i false = false) : ∀ (t n : Nat), (ups md ops i n).getD t false = true → listed.getD t false = false := by
  intro t
  induction t using Nat.strongRecOn with
  | _ t ih =>
    intro n h
    rcases ups_edge i n t h with rfl | ⟨o, ho, e, he, hb, hlt, m, hm⟩
    · exact hi
    · cases hl : listed.getD t false with
      | false => rfl
      | true => have := hc t o ho hl e he hb; rw [ih _ hlt m hm] at this; cases this
theorem not_ready {i t n : Nat} {listed : Array Bool} (hc : Closed md ops listed) (hi : listed.getD i false = false) (ht : (ups md ops i n).getD t false = true) (hne : t ≠ i) : t ∉ Region.ready md ops listed := by
  intro hr
  obtain ⟨_, ot, hot, hall⟩ := mem_ready.1 hr
  rcases ups_edge i n t ht with h | ⟨o, ho, e, he, hb, _, m, hm⟩
  · exact hne h
  · obtain rfl : o = ot := Option.some.inj (ho.symm.trans hot)
    have := hall e he hb
    rw [ups_un hc hi _ m hm] at this; cases this
theorem Closed.set {i : Nat} {listed : Array Bool} (hc : Closed md ops listed) (hi : i ∈ Region.ready md ops listed) : Closed md ops (listed.setIfInBounds i true) := by
  obtain ⟨_, oi, hoi, hall⟩ := mem_ready.1 hi
  intro j oj hoj hl e he hb
  by_cases hij : i = j
  · subst hij
    obtain rfl : oj = oi := Option.some.inj (hoj.symm.trans hoi)
    exact getD_set_true (hall e he hb)
  · rw [getD_set_ne false hij] at hl
    exact getD_set_true (hc j oj hoj hl e he hb)
def closedB (md : Region.Mode) (ops : Array Oper) (listed : Array Bool) : Bool :=
  (List.range ops.size).all fun j => !listed.getD j false || ((ops[j]?).map fun o => o.after.all fun e => !Region.binds md e || listed.getD e.on false).getD true
theorem closed_of {listed : Array Bool} (h : closedB md ops listed = true) : Closed md ops listed := by
  intro j oj hoj hl e he hb
  have h1 := List.all_eq_true.1 h j (List.mem_range.2 (Array.getElem?_eq_some_iff.1 hoj).1)
  rw [hl, hoj] at h1
  simp only [Bool.not_true, Bool.false_or, Option.map_some, Option.getD_some] at h1
  have h2 := Array.all_eq_true'.1 h1 e he
  rw [hb] at h2
  simpa using h2

/-- the head in whatever order -/
def wpAnyH (P : Program) (md : Region.Mode) (ops : Array Oper) (C : World → Prop) (hd : Nat → Bool) (L : Array Bool → Act → Prop) : Nat → Array Bool → Act → Prop
  | 0, listed, a => L listed a
  | f + 1, listed, a => Region.ready md ops listed ≠ [] ∧ ∀ i ∈ Region.ready md ops listed, hd i = true ∧ qOp P ops C i (wpAnyH P md ops C hd L f (listed.setIfInBounds i true)) a
theorem wpAny_of_headH {hd : Nat → Bool} {g : Nat} {L : Array Bool → Act → Prop} {Q' : Exit → Act → World → Prop} (hL : ∀ listed a, L listed a → ∀ w, C w → wpAny P md ops Q' g listed a w) :
    ∀ (f : Nat) (listed : Array Bool) (a : Act) (w : World), C w → wpAnyH P md ops C hd L f listed a → wpAny P md ops Q' (f + g) listed a w
  | 0, listed, a, w, hw, h => by rw [Nat.zero_add]; exact hL _ _ h w hw
  | f + 1, listed, a, w, hw, h => by
    rw [show f + 1 + g = (f + g) + 1 by omega]
    exact ⟨fun h0 => absurd h0 h.1, fun i hi => wpOp_of_qOp hw (fun a' w' hw' h' => wpAny_of_headH hL f _ a' w' hw' h') (h.2 i hi).2⟩
theorem wpAnyH_first {hd : Nat → Bool} {i : Nat} {oi : Oper} {v : Value} {L : Array Bool → Act → Prop} (hi : ops[i]? = some oi) (hsel : ∀ (j : Nat) (o : Oper) cs b, ops[j]? = some o → o.op ≠ .select cs b) (hin : hd i = true)
    (hdone : ∀ listed a, L listed a → ∀ j ∈ Region.ready md ops listed, hd j = false) :
    ∀ (f : Nat) (listed : Array Bool) (a : Act), Closed md ops listed → (∀ t, t < ops.size → hd t = false → listed.getD t true = false → (ups md ops i ops.size).getD t false = true) →
      (∀ j oj, ops[j]? = some oj → j ≠ i → listed.getD j true = false → (∀ e ∈ oj.after, Region.binds md e = true → e.on ≠ i) → oi.apart ops oj = true) →
      i ∈ Region.ready md ops listed → YieldsIn P ops C oi v a →
      wpAnyH P md ops C hd L f (listed.setIfInBounds i true) (a.put oi.dst v) → wpAnyH P md ops C hd L (f + 1) listed a := by
  intro f
  have key : ∀ (listed : Array Bool), Closed md ops listed → (∀ t, t < ops.size → hd t = false → listed.getD t true = false → (ups md ops i ops.size).getD t false = true) → i ∈ Region.ready md ops listed → ∀ j ∈ Region.ready md ops listed, hd j = true := by
    intro listed hc ht hr j hj
    cases hh : hd j with
    | true => rfl
    | false =>
      have hju := (mem_ready.1 hj).1
      obtain ⟨o, ho, _⟩ := (mem_ready.1 hj).2
      have hne : j ≠ i := fun e => by rw [e, hin] at hh; cases hh
      exact absurd hj (not_ready hc (getD_both (mem_ready.1 hr).1) (ht j (Array.getElem?_eq_some_iff.1 ho).1 hh hju) hne)
  induction f with
  | zero =>
    intro listed a hc ht _ hr hy H
    refine ⟨fun h => (by rw [h] at hr; cases hr), fun j hj => ?_⟩
    refine ⟨key listed hc ht hr j hj, ?_⟩
    by_cases hji : j = i
    · subst hji; exact hy.qOp hi H
    · have h1 := hdone _ _ H j (ready_mono hj hji)
      rw [key listed hc ht hr j hj] at h1; cases h1
  | succ f ih =>
    intro listed a hc ht hfree hr hy H
    refine ⟨fun h => (by rw [h] at hr; cases hr), fun j hj => ?_⟩
    refine ⟨key listed hc ht hr j hj, ?_⟩
    by_cases hji : j = i
    · subst hji; exact hy.qOp hi H
    · have h1 := (H.2 j (ready_mono hj hji)).2
      obtain ⟨hjun, oj, hoj, hall⟩ := mem_ready.1 hj
      have hnot : ∀ e ∈ oj.after, Region.binds md e = true → e.on ≠ i := fun e he hb heq => by
        have h1 := hall e he hb
        rw [heq, getD_both (mem_ready.1 hr).1] at h1
        cases h1
      have h2 := qOp_put hoj (hfree j oj hoj hji hjun hnot) (fun cs b => hsel i oi cs b hi) (fun cs b => hsel j oj cs b hoj) hy h1
      have un : ∀ k, (listed.setIfInBounds j true).getD k true = false → listed.getD k true = false := fun k hk => by
        by_cases hjk : j = k
        · subst hjk; exact hjun
        · rw [getD_set_ne true hjk] at hk; exact hk
      have hfree' : ∀ k ok, ops[k]? = some ok → k ≠ i → (listed.setIfInBounds j true).getD k true = false →
          (∀ e ∈ ok.after, Region.binds md e = true → e.on ≠ i) → oi.apart ops ok = true := fun k ok hk hki hun hno => hfree k ok hk hki (un k hun) hno
      refine qOp_mono (fun a' h3 => ih (listed.setIfInBounds j true) a' (hc.set hj) (fun t ht1 ht2 ht3 => ht t ht1 ht2 (un t ht3)) hfree' (ready_mono hr (Ne.symm hji)) h3.1 ?_) h2
      rw [Array.setIfInBounds_comm _ _ hji]
      exact h3.2

/-! ### the head, by a mask -/
/-- the marked operations -/
def sel : List Bool → List Oper → List Oper
  | true :: m, o :: r => o :: sel m r
  | false :: m, _ :: r => sel m r
  | _, _ => []
/-- what has come up behind the marked ones -/
def setAll : List Bool → Nat → Array Bool → Array Bool
  | [], _, listed => listed
  | true :: m, k, listed => setAll m (k + 1) (listed.setIfInBounds k true)
  | false :: m, k, listed => setAll m (k + 1) listed
def cnt : List Bool → Nat
  | [] => 0
  | true :: m => cnt m + 1
  | false :: m => cnt m
def headB (md : Region.Mode) (ops : Array Oper) (hd : Nat → Bool) : List Bool → Nat → Array Bool → Bool
  | [], _, listed => (Region.ready md ops listed).all fun j => !hd j
  | true :: m, k, listed => (Region.ready md ops listed).contains k && Region.free md ops listed k && hd k && ((List.range ops.size).all fun t => hd t || listed.getD t true || (ups md ops k ops.size).getD t false) && headB md ops hd m (k + 1) (listed.setIfInBounds k true)
  | false :: m, k, listed => headB md ops hd m (k + 1) listed
def checkB (md : Region.Mode) (ops : Array Oper) (m : List Bool) (listed : Array Bool) : Bool :=
  Region.noSelect ops && closedB md ops listed && decide (m.length ≤ ops.size) && headB md ops (fun t => m.getD t false) m 0 listed
theorem wpAnyH_lex {hd : Nat → Bool} {Lq : Act → Prop} {F : Array Bool} (hs : Region.noSelect ops = true) (hF : ∀ j ∈ Region.ready md ops F, hd j = false) :
    ∀ (m : List Bool) (k : Nat) (l : List Oper) (listed : Array Bool) (a : Act), (∀ j, l[j]? = ops[k + j]?) → m.length ≤ l.length → Closed md ops listed → headB md ops hd m k listed = true → setAll m k listed = F → wpQuiet P ops C Lq (sel m l) a →
    wpAnyH P md ops C hd (fun listed' a' => listed' = F ∧ Lq a') (cnt m) listed a
  | [], _, _, _, _, _, _, _, _, hset, h => ⟨hset, by cases ‹List Oper› <;> exact h⟩
  | true :: m, k, [], _, _, _, hle, _, _, _, _ => absurd hle (by simp)
  | false :: m, k, [], _, _, _, hle, _, _, _, _ => absurd hle (by simp)
  | false :: m, k, o :: l, listed, a, hl, hle, hc, hB, hset, h => by
    simp only [headB] at hB
    exact wpAnyH_lex hs hF m (k + 1) l listed a (fun j => by have := hl (j + 1); simpa [Nat.add_assoc, Nat.add_comm 1 j] using this) (by simpa using hle) hc hB (by simpa [setAll] using hset) h
  | true :: m, k, o :: l, listed, a, hl, hle, hc, hB, hset, h => by
    have h0 : ops[k]? = some o := by simpa using (hl 0).symm
    simp only [headB, Bool.and_eq_true] at hB
    obtain ⟨⟨⟨⟨hr, hf⟩, hk⟩, ht⟩, hB'⟩ := hB
    have hr' : k ∈ Region.ready md ops listed := by simpa using hr
    have hst : qOp P ops C k (wpQuiet P ops C Lq (sel m l)) a := by unfold qOp; simp only [h0]; exact h
    obtain ⟨v, hy, hK⟩ := yieldsIn_of_qOp h0 hst
    refine wpAnyH_first h0 (Region.noSelect_spec hs) hk (fun _ _ hL => by rw [hL.1]; exact hF) (cnt m) listed a hc (fun t ht1 ht2 ht3 => ?_) (Region.free_spec h0 hf) hr' hy
      (wpAnyH_lex hs hF m (k + 1) l _ _ (fun j => by have := hl (j + 1); simpa [Nat.add_assoc, Nat.add_comm 1 j] using this) (by simpa using hle) (hc.set hr') hB' (by simpa [setAll] using hset) hK)
    have h3 := List.all_eq_true.1 ht t (List.mem_range.2 ht1)
    rw [ht2, ht3] at h3
    simpa using h3
theorem headB_done {hd : Nat → Bool} : ∀ (m : List Bool) (k : Nat) (listed : Array Bool), headB md ops hd m k listed = true → ∀ j ∈ Region.ready md ops (setAll m k listed), hd j = false
  | [], k, listed, h, j, hj => by
    have := List.all_eq_true.1 h j hj
    simpa using this
  | true :: m, k, listed, h, j, hj => by
    simp only [headB, Bool.and_eq_true] at h
    exact headB_done m (k + 1) _ h.2 j hj
  | false :: m, k, listed, h, j, hj => headB_done m (k + 1) _ h j hj
/-- The marked operations in one walk, then the others. -/
theorem wpAny_head (m : List Bool) {l : List Oper} {g : Nat} {listed : Array Bool} {a : Act} {w : World} {Q' : Exit → Act → World → Prop} (hB : checkB md l.toArray m listed = true) (hC : C w)
    (h : wpQuiet P l.toArray C (fun a' => ∀ w', C w' → wpAny P md l.toArray Q' g (setAll m 0 listed) a' w') (sel m l) a) : wpAny P md l.toArray Q' (cnt m + g) listed a w := by
  simp only [checkB, Bool.and_eq_true, decide_eq_true_eq] at hB
  obtain ⟨⟨⟨hs, hc⟩, hle⟩, hh⟩ := hB
  refine wpAny_of_headH (fun listed' a' hL w' hw' => ?_) _ _ _ w hC (wpAnyH_lex hs (headB_done m 0 listed hh) m 0 l listed a (fun j => by simp) (by simpa using hle) (closed_of hc) hh rfl h)
  rw [hL.1]; exact hL.2 w' hw'
/-- The rest, where its order is forced. -/
theorem wpAny_seq {l : List Oper} (k : Nat) {listed : Array Bool} {a : Act} {w : World} {Q' : Exit → Act → World → Prop} (hB : Region.seqB md l.toArray (l.drop k).length k listed = true) (h : wpList P l.toArray Q' (l.drop k) a w) : wpAny P md l.toArray Q' (l.drop k).length listed a w :=
  wpAny_of_seq (md := md) (l.drop k) k listed a w (fun j => by simp [List.getElem?_drop]) hB h
theorem quiet_mono {K K' : Act → Prop} (hK : ∀ a, K a → K' a) : ∀ (r : List Oper) (a : Act), wpQuiet P ops C K r a → wpQuiet P ops C K' r a
  | [], a, h => hK a h
  | o :: r, a, h => by
    simp only [wpQuiet] at h ⊢
    split
    · rename_i hw; rw [if_pos hw] at h; exact Oper.quiet_mono (quiet_mono hK r) h
    · rename_i hw; rw [if_neg hw] at h; exact quiet_mono hK r _ h
theorem sel_all : ∀ (k : Nat) (l : List Oper), sel (List.replicate k true) l = l.take k
  | 0, l => by cases l <;> rfl
  | k + 1, [] => rfl
  | k + 1, o :: l => by simp [List.replicate_succ, sel, sel_all k l]
theorem wpAny_rest {l : List Oper} (k : Nat) {g : Nat} {listed : Array Bool} {a : Act} {w : World} {Q' : Exit → Act → World → Prop} (hg : (l.drop k).length = g) (hB : Region.seqB md l.toArray g k listed = true) (h : wpList P l.toArray Q' (l.drop k) a w) : wpAny P md l.toArray Q' g listed a w := by
  subst hg; exact wpAny_seq k hB h
/-- A region whose first marked operations are quiet in a class of worlds, and whose last ones, from number k on, come in the text's order. -/
theorem wp_region_tail {id : Nat} {Q : Exit → Act → World → Prop} {a : Act} {w : World} {l : List Oper} (k : Nat) (hm : P.follows .mixedOrders = true) (hB : (checkB .any l.toArray (List.replicate k true) (Array.replicate l.length false) && decide (k ≤ l.length) && Region.seqB .any l.toArray (l.drop k).length k (setAll (List.replicate k true) 0 (Array.replicate l.length false))) = true)
    (hC : C w.drew) (h : wpQuiet P l.toArray C (fun a' => ∀ w', C w' → wpList P l.toArray Q (l.drop k) a' w') (l.take k) a) : (Code.region id l.toArray true).wp P Q a w := by
  simp only [Bool.and_eq_true, decide_eq_true_eq] at hB
  obtain ⟨⟨h1, h2⟩, h3⟩ := hB
  refine wp_region_any hm ?_
  have hcnt : ∀ k, cnt (List.replicate k true) = k := fun k => by induction k with | zero => rfl | succ k ih => simp [List.replicate_succ, cnt, ih]
  have H := wpAny_head (P := P) (md := .any) (C := C) (Q' := Q) (g := (l.drop k).length) (List.replicate k true) (l := l) (listed := Array.replicate l.length false) (a := a) (w := w.drew) h1 hC ?_
  · rw [hcnt, show k + (l.drop k).length = l.length by simp; omega] at H
    simpa using H
  · rw [sel_all]; exact quiet_mono (fun a' ha w' hw' => wpAny_seq k h3 (ha w' hw')) _ _ h
/-! ### what lies below, step by step: for 'repeat' at a walk's end -/
theorem bset {B : Nat} {x w : World} (h : Below B x w) (b i : Nat) (hb : B ≤ b) (u : Value) : Below B x (w.setCell ⟨b, i, none⟩ u) := h.setCell (p := ⟨b, i, none⟩) hb u
theorem bdrewN {B : Nat} {x w : World} (h : Below B x w) (n : Nat) : Below B x (w.drewN n) := h.trans ⟨rfl, rfl, rfl, Nat.le_refl _, fun _ _ => rfl⟩
theorem bdrew {B : Nat} {x w : World} (h : Below B x w) : Below B x w.drew := h.drew
theorem balloc {B : Nat} {x w : World} (h : Below B x w) (hB : B ≤ w.heap.size) (o : Obj) : Below B x (w.alloc o) := h.alloc hB o
/-- The same at the class of worlds behind some draws, and at that of worlds in which all that lay there lies as it did. -/
theorem wp_region_tail_drew {id : Nat} {Q : Exit → Act → World → Prop} {a : Act} {w : World} {l : List Oper} (k : Nat) (hm : P.follows .mixedOrders = true) (hB : (checkB .any l.toArray (List.replicate k true) (Array.replicate l.length false) && decide (k ≤ l.length) && Region.seqB .any l.toArray (l.drop k).length k (setAll (List.replicate k true) 0 (Array.replicate l.length false))) = true)
    (h : wpQuiet P l.toArray (fun w' => ∃ n, w' = w.drewN n) (fun a' => ∀ w', (∃ n, w' = w.drewN n) → wpList P l.toArray Q (l.drop k) a' w') (l.take k) a) : (Code.region id l.toArray true).wp P Q a w :=
  wp_region_tail (C := fun w' => ∃ n, w' = w.drewN n) k hm hB ⟨1, rfl⟩ h
theorem wp_region_tail_under {id : Nat} {Q : Exit → Act → World → Prop} {a : Act} {w : World} {l : List Oper} (k : Nat) (hm : P.follows .mixedOrders = true) (hB : (checkB .any l.toArray (List.replicate k true) (Array.replicate l.length false) && decide (k ≤ l.length) && Region.seqB .any l.toArray (l.drop k).length k (setAll (List.replicate k true) 0 (Array.replicate l.length false))) = true)
    (h : wpQuiet P l.toArray (fun w' => ∃ n : under.Under w, w' = n.W) (fun a' => ∀ w', (∃ n : under.Under w, w' = n.W) → wpList P l.toArray Q (l.drop k) a' w') (l.take k) a) : (Code.region id l.toArray true).wp P Q a w :=
  wp_region_tail (C := fun w' => ∃ n : under.Under w, w' = n.W) k hm hB ⟨⟨w.drew, under.drew_below w⟩, rfl⟩ h
end Go.Proofs.YtgpfhgkphadgkaaDoor.tail
