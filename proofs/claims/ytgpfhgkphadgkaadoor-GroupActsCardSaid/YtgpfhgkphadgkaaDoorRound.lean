/- A region that draws its order, IN A ROUND of a range over a function: its operations read (or call what reads), none is a defer statement: one walk in the text's order. And such a region that ends in stores. No program is named. -/
import Derived.Sort.QuietIn
import Derived.TacticsInMore
import Derived.Deep.QuietTactic
import Derived.WalkKit
import Derived.Test.YtgpfhgkphadgkaaDoorTail
import Derived.OwnWalkIn
namespace Go.Proofs.YtgpfhgkphadgkaaDoor.inround
open Go Go.RowKit tail
variable {F : Fence} {n : Nat} {P : Program} {ops : Array Oper} {md : Region.Mode} {C : World → Prop}

/-- no operation defers -/
def noDefer (ops : Array Oper) : Bool := ops.toList.all fun o => match o.op with | .defer _ => false | _ => true
theorem noDefer_at {i : Nat} {o : Oper} (h : noDefer ops = true) (ho : ops[i]? = some o) (c : _) : o.op ≠ .defer c := fun e => by
  have h1 := List.all_eq_true.1 h o (Array.mem_toList_iff.2 (Array.mem_of_getElem? ho))
  simp [e] at h1
theorem of_quiet {o : Oper} {a : Act} {K : Act → Prop} {K' : Act → World → Prop} {Q' : Exit → Act → World → Prop} {w : World} (hnd : ∀ c, o.op ≠ .defer c) (hw : C w) (h : ∀ a w', C w' → K a → K' a w')
    (ha : o.askedIn F P a C) (hh : o.quietIn F n P a C K) : o.wpIn F n P a w K' Q' := by
  obtain ⟨v, h1, h2⟩ := hh
  have h3 := h1 w hw
  unfold Oper.quietAtIn at h3
  refine ⟨ha w hw, ?_⟩
  rw [Oper.semAt_eq _ _ _ hnd]
  generalize (execOp a.eval o).run P w = r at *
  match r, h3 with
  | .ok (.value u) w', h3 => obtain ⟨e1, e2⟩ := h3; subst e1; subst e2; exact h _ _ hw h2
  | .ok .skip w', h3 => obtain ⟨e1, e2⟩ := h3; subst e1; subst e2; exact h _ _ hw h2
  | .ok (.enter f args) w', h3 =>
    obtain ⟨e1, hd, hc⟩ := h3
    subst e1
    exact ⟨hd, hc.mono fun e w'' ⟨he, hw''⟩ => by subst he; exact h _ _ hw'' h2⟩
theorem at_quiet {i : Nat} {a : Act} {K : Act → Prop} {K' : Act → World → Prop} {Q' : Exit → Act → World → Prop} {w : World} (hnd : noDefer ops = true) (hC : C w) (h : ∀ a w', C w' → K a → K' a w')
    (hh : qOpIn F n P ops C i K a) : wpOpIn F n P ops Q' i K' a w := by
  unfold qOpIn at hh
  unfold wpOpIn
  split
  · rename_i ho; simp only [ho] at hh; exact h _ _ hC hh
  · rename_i o ho
    simp only [ho] at hh
    obtain ⟨ha, hh⟩ := hh
    split
    · rename_i hw; simp only [hw, if_true] at hh; exact of_quiet (noDefer_at hnd ho) hC h ha hh
    · rename_i hw; simp only [hw] at hh; exact ⟨ha w hC, h _ _ hC hh⟩
theorem any_quiet {Q : Act → Prop} {Q' : Exit → Act → World → Prop} (hnd : noDefer ops = true) (hQ : ∀ a w, C w → Q a → Q' .normal a w) : ∀ (fuel : Nat) (listed : Array Bool) (a : Act) (w : World), C w →
    wpAnyQIn F n P md ops C Q fuel listed a → wpAnyIn F n P md ops Q' fuel listed a w
  | 0, _, _, _, hw, h => ⟨h.1, hQ _ _ hw h.2⟩
  | fuel + 1, _, _, _, hw, h => ⟨fun h0 => hQ _ _ hw (h.1 h0), fun i hi => at_quiet hnd hw (fun a' w' hw' => any_quiet hnd hQ fuel _ a' w' hw') (h.2 i hi)⟩
/-- the region, at the class of worlds behind some draws -/
theorem region {id : Nat} {Q : Exit → Act → World → Prop} {a : Act} {w : World} {l : List Oper} (hnd : noDefer l.toArray = true) (hm : P.follows .mixedOrders = true) (hB : Region.lexB .any l.toArray = true)
    (h : wpQuietIn F n P l.toArray (fun w' => ∃ n, w' = w.drewN n) (fun a' => ∀ w', (∃ n, w' = w.drewN n) → Q .normal a' w') l a) : (Code.region id l.toArray true).wpIn F n P Q a w := by
  simp only [Region.lexB, Bool.and_eq_true] at hB
  refine wpIn_region_any hm (any_quiet (Q := fun a' => ∀ w', (∃ n, w' = w.drewN n) → Q .normal a' w') hnd (fun _ w' hw' h => h w' hw') _ _ _ _ ⟨1, rfl⟩ ?_)
  have := wpAnyQIn_lex (F := F) (n := n) (C := fun w' => ∃ n, w' = w.drewN n) (md := .any) hB.1 l 0 (Array.replicate l.toArray.size false) a (by simp) (by simpa using hB.2) h
  simpa using this
/-! ### a head that reads, then stores -/
/-- the head in whatever order -/
def wpAnyHIn (F : Fence) (n : Nat) (P : Program) (md : Region.Mode) (ops : Array Oper) (C : World → Prop) (hd : Nat → Bool) (L : Array Bool → Act → Prop) : Nat → Array Bool → Act → Prop
  | 0, listed, a => L listed a
  | f + 1, listed, a => Region.ready md ops listed ≠ [] ∧ ∀ i ∈ Region.ready md ops listed, hd i = true ∧ qOpIn F n P ops C i (wpAnyHIn F n P md ops C hd L f (listed.setIfInBounds i true)) a
theorem wpAnyIn_of_headH {hd : Nat → Bool} {g : Nat} {L : Array Bool → Act → Prop} {Q' : Exit → Act → World → Prop} (hnd : noDefer ops = true) (hL : ∀ listed a, L listed a → ∀ w, C w → wpAnyIn F n P md ops Q' g listed a w) :
    ∀ (f : Nat) (listed : Array Bool) (a : Act) (w : World), C w → wpAnyHIn F n P md ops C hd L f listed a → wpAnyIn F n P md ops Q' (f + g) listed a w
  | 0, listed, a, w, hw, h => by rw [Nat.zero_add]; exact hL _ _ h w hw
  | f + 1, listed, a, w, hw, h => by
    rw [show f + 1 + g = (f + g) + 1 by omega]
    exact ⟨fun h0 => absurd h0 h.1, fun i hi => at_quiet hnd hw (fun a' w' hw' h' => wpAnyIn_of_headH hnd hL f _ a' w' hw' h') (h.2 i hi).2⟩
theorem wpAnyHIn_first {hd : Nat → Bool} {i : Nat} {oi : Oper} {v : Value} {L : Array Bool → Act → Prop} (hi : ops[i]? = some oi) (hsel : ∀ (j : Nat) (o : Oper) cs b, ops[j]? = some o → o.op ≠ .select cs b) (hin : hd i = true)
    (hdone : ∀ listed a, L listed a → ∀ j ∈ Region.ready md ops listed, hd j = false) :
    ∀ (f : Nat) (listed : Array Bool) (a : Act), Closed md ops listed → (∀ t, t < ops.size → hd t = false → listed.getD t true = false → (ups md ops i ops.size).getD t false = true) →
      (∀ j oj, ops[j]? = some oj → j ≠ i → listed.getD j true = false → (∀ e ∈ oj.after, Region.binds md e = true → e.on ≠ i) → oi.apart ops oj = true) →
      i ∈ Region.ready md ops listed → YieldsQuiet F n P ops C oi v a →
      wpAnyHIn F n P md ops C hd L f (listed.setIfInBounds i true) (a.put oi.dst v) → wpAnyHIn F n P md ops C hd L (f + 1) listed a := by
  intro f
  have key : ∀ (listed : Array Bool), Closed md ops listed → (∀ t, t < ops.size → hd t = false → listed.getD t true = false → (ups md ops i ops.size).getD t false = true) → i ∈ Region.ready md ops listed → ∀ j ∈ Region.ready md ops listed, hd j = true := by
    intro listed hc ht hr j hj
    cases hh : hd j with
    | true => rfl
    | false =>
      have hju := (mem_ready.1 hj).1
      obtain ⟨o, ho, _⟩ := (mem_ready.1 hj).2
      have hne : j ≠ i := fun e => by rw [e, hin] at hh; cases hh
      exact absurd hj (not_ready hc (getD_both (mem_ready.1 hr).1) (ht j (Array.getElem?_eq_some_iff.1 ho).1 hh hju) hne)
  induction f with
  | zero =>
    intro listed a hc ht _ hr hy H
    refine ⟨fun h => (by rw [h] at hr; cases hr), fun j hj => ?_⟩
    refine ⟨key listed hc ht hr j hj, ?_⟩
    by_cases hji : j = i
    · subst hji; exact hy.qOpIn hi H
    · have h1 := hdone _ _ H j (ready_mono hj hji)
      rw [key listed hc ht hr j hj] at h1; cases h1
  | succ f ih =>
    intro listed a hc ht hfree hr hy H
    refine ⟨fun h => (by rw [h] at hr; cases hr), fun j hj => ?_⟩
    refine ⟨key listed hc ht hr j hj, ?_⟩
    by_cases hji : j = i
    · subst hji; exact hy.qOpIn hi H
    · have h1 := (H.2 j (ready_mono hj hji)).2
      obtain ⟨hjun, oj, hoj, hall⟩ := mem_ready.1 hj
      have hnot : ∀ e ∈ oj.after, Region.binds md e = true → e.on ≠ i := fun e he hb heq => by
        have h1 := hall e he hb
        rw [heq, getD_both (mem_ready.1 hr).1] at h1
        cases h1
      have h2 := qOpIn_put hoj (hfree j oj hoj hji hjun hnot) (fun cs b => hsel i oi cs b hi) (fun cs b => hsel j oj cs b hoj) hy h1
      have un : ∀ k, (listed.setIfInBounds j true).getD k true = false → listed.getD k true = false := fun k hk => by
        by_cases hjk : j = k
        · subst hjk; exact hjun
        · rw [getD_set_ne true hjk] at hk; exact hk
      have hfree' : ∀ k ok, ops[k]? = some ok → k ≠ i → (listed.setIfInBounds j true).getD k true = false →
          (∀ e ∈ ok.after, Region.binds md e = true → e.on ≠ i) → oi.apart ops ok = true := fun k ok hk hki hun hno => hfree k ok hk hki (un k hun) hno
      refine qOpIn_mono (fun a' h3 => ih (listed.setIfInBounds j true) a' (hc.set hj) (fun t ht1 ht2 ht3 => ht t ht1 ht2 (un t ht3)) hfree' (ready_mono hr (Ne.symm hji)) h3.1 ?_) h2
      rw [Array.setIfInBounds_comm _ _ hji]
      exact h3.2

theorem wpAnyHIn_lex {hd : Nat → Bool} {Lq : Act → Prop} {FF : Array Bool} (hs : Region.noSelect ops = true) (hF : ∀ j ∈ Region.ready md ops FF, hd j = false) :
    ∀ (m : List Bool) (k : Nat) (l : List Oper) (listed : Array Bool) (a : Act), (∀ j, l[j]? = ops[k + j]?) → m.length ≤ l.length → Closed md ops listed → headB md ops hd m k listed = true → setAll m k listed = FF → wpQuietIn F n P ops C Lq (sel m l) a →
    wpAnyHIn F n P md ops C hd (fun listed' a' => listed' = FF ∧ Lq a') (cnt m) listed a
  | [], _, _, _, _, _, _, _, _, hset, h => ⟨hset, by cases ‹List Oper› <;> exact h⟩
  | true :: m, k, [], _, _, _, hle, _, _, _, _ => absurd hle (by simp)
  | false :: m, k, [], _, _, _, hle, _, _, _, _ => absurd hle (by simp)
  | false :: m, k, o :: l, listed, a, hl, hle, hc, hB, hset, h => by
    simp only [headB] at hB
    exact wpAnyHIn_lex hs hF m (k + 1) l listed a (fun j => by have := hl (j + 1); simpa [Nat.add_assoc, Nat.add_comm 1 j] using this) (by simpa using hle) hc hB (by simpa [setAll] using hset) h
  | true :: m, k, o :: l, listed, a, hl, hle, hc, hB, hset, h => by
    have h0 : ops[k]? = some o := by simpa using (hl 0).symm
    simp only [headB, Bool.and_eq_true] at hB
    obtain ⟨⟨⟨⟨hr, hf⟩, hk⟩, ht⟩, hB'⟩ := hB
    have hr' : k ∈ Region.ready md ops listed := by simpa using hr
    have hst : qOpIn F n P ops C k (wpQuietIn F n P ops C Lq (sel m l)) a := by unfold qOpIn; simp only [h0]; exact h
    obtain ⟨v, hy, hK⟩ := yieldsQuiet_of_qOpIn h0 hst
    refine wpAnyHIn_first h0 (Region.noSelect_spec hs) hk (fun _ _ hL => by rw [hL.1]; exact hF) (cnt m) listed a hc (fun t ht1 ht2 ht3 => ?_) (Region.free_spec h0 hf) hr' hy
      (wpAnyHIn_lex hs hF m (k + 1) l _ _ (fun j => by have := hl (j + 1); simpa [Nat.add_assoc, Nat.add_comm 1 j] using this) (by simpa using hle) (hc.set hr') hB' (by simpa [setAll] using hset) hK)
    have h3 := List.all_eq_true.1 ht t (List.mem_range.2 ht1)
    rw [ht2, ht3] at h3
    simpa using h3
/-- The marked operations in one walk, then the others. -/
theorem wpAnyIn_head {l : List Oper} (hnd : noDefer l.toArray = true) (m : List Bool) {g : Nat} {listed : Array Bool} {a : Act} {w : World} {Q' : Exit → Act → World → Prop} (hB : checkB md l.toArray m listed = true) (hC : C w)
    (h : wpQuietIn F n P l.toArray C (fun a' => ∀ w', C w' → wpAnyIn F n P md l.toArray Q' g (setAll m 0 listed) a' w') (sel m l) a) : wpAnyIn F n P md l.toArray Q' (cnt m + g) listed a w := by
  simp only [checkB, Bool.and_eq_true, decide_eq_true_eq] at hB
  obtain ⟨⟨⟨hs, hc⟩, hle⟩, hh⟩ := hB
  refine wpAnyIn_of_headH hnd (fun listed' a' hL w' hw' => ?_) _ _ _ w hC (wpAnyHIn_lex hs (headB_done m 0 listed hh) m 0 l listed a (fun j => by simp) (by simpa using hle) (closed_of hc) hh rfl h)
  rw [hL.1]; exact hL.2 w' hw'
theorem quiet_monoIn {K K' : Act → Prop} (hK : ∀ a, K a → K' a) : ∀ (r : List Oper) (a : Act), wpQuietIn F n P ops C K r a → wpQuietIn F n P ops C K' r a
  | [], a, h => hK a h
  | o :: r, a, h => by
    simp only [wpQuietIn] at h ⊢
    refine ⟨h.1, ?_⟩
    have h := h.2
    split
    · rename_i hw; rw [if_pos hw] at h; exact Oper.quietIn_mono (quiet_monoIn hK r) h
    · rename_i hw; rw [if_neg hw] at h; exact quiet_monoIn hK r _ h
theorem wpAnyIn_of_seq {Q' : Exit → Act → World → Prop} : ∀ (l : List Oper) (k : Nat) (listed : Array Bool) (a : Act) (w : World), (∀ j, l[j]? = ops[k + j]?) →
    Region.seqB md ops l.length k listed = true → wpListIn F n P ops Q' l a w → wpAnyIn F n P md ops Q' l.length listed a w
  | [], _, _, _, _, _, hB, h => ⟨by simpa [Region.seqB] using hB, h⟩
  | o :: l, k, listed, a, w, hl, hB, h => by
    have h0 : ops[k]? = some o := by simpa using (hl 0).symm
    simp only [List.length_cons, Region.seqB, Bool.and_eq_true, decide_eq_true_eq] at hB
    refine ⟨fun h1 => (by rw [hB.1] at h1; cases h1), fun i hi => ?_⟩
    rw [hB.1] at hi
    have hik : i = k := by simpa using hi
    subst hik
    have hw : wpOpIn F n P ops Q' i (wpListIn F n P ops Q' l) a w := by unfold wpOpIn; simp only [h0]; exact h
    exact wpOpIn_mono (fun a' w' h' => wpAnyIn_of_seq l (i + 1) _ a' w' (fun j => by have := hl (j + 1); simpa [Nat.add_assoc, Nat.add_comm 1 j] using this) hB.2 h') hw
/-- a region in a round: its first k operations read, the rest come in the text's order -/
theorem region_tail {id : Nat} {Q : Exit → Act → World → Prop} {a : Act} {w : World} {l : List Oper} (k : Nat) (hnd : noDefer l.toArray = true) (hm : P.follows .mixedOrders = true) (hB : (checkB .any l.toArray (List.replicate k true) (Array.replicate l.length false) && decide (k ≤ l.length) && Region.seqB .any l.toArray (l.drop k).length k (setAll (List.replicate k true) 0 (Array.replicate l.length false))) = true)
    (h : wpQuietIn F n P l.toArray (fun w' => ∃ q, w' = w.drewN q) (fun a' => ∀ w', (∃ q, w' = w.drewN q) → wpListIn F n P l.toArray Q (l.drop k) a' w') (l.take k) a) : (Code.region id l.toArray true).wpIn F n P Q a w := by
  simp only [Bool.and_eq_true, decide_eq_true_eq] at hB
  obtain ⟨⟨h1, h2⟩, h3⟩ := hB
  refine wpIn_region_any hm ?_
  have hcnt : ∀ k, cnt (List.replicate k true) = k := fun k => by induction k with | zero => rfl | succ k ih => simp [List.replicate_succ, cnt, ih]
  have H := wpAnyIn_head (F := F) (n := n) (P := P) (md := .any) (C := fun w' => ∃ q, w' = w.drewN q) (Q' := Q) (g := (l.drop k).length) hnd (List.replicate k true) (l := l) (listed := Array.replicate l.length false) (a := a) (w := w.drew) h1 ⟨1, rfl⟩ ?_
  · rw [hcnt, show k + (l.drop k).length = l.length by simp; omega] at H
    simpa using H
  · rw [sel_all]; exact quiet_monoIn (fun a' ha w' hw' => wpAnyIn_of_seq (l.drop k) k _ a' w' (fun j => by simp [List.getElem?_drop]) h3 (ha w' hw')) _ _ h
end Go.Proofs.YtgpfhgkphadgkaaDoor.inround
