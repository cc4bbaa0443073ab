/- A region that draws its order, inside a fence (in a round or not): its first k operations read, but for some, marked, that lead the world from stage to stage, one behind the other; the rest comes in the text's order. One walk in the text's order serves every order. No program is named. -/
import Derived.Test.YtgpfhgkphadgkaaDoorRound
import Derived.Test.YtgpfhgkphadgkaaDoorStage
namespace Go.Proofs.YtgpfhgkphadgkaaDoor.move
open Go Go.RowKit tail stage inround
set_option linter.unusedVariables false
variable {F : Fence} {n : Nat} {P : Program} {ops : Array Oper} {md : Region.Mode} {D : Nat → World → Prop}

/-- an operation that leads to worlds of a class -/
def stepUpon (F : Fence) (n : Nat) (P : Program) (C : World → Prop) (v : Value) : Result Next → Prop
  | .ok (.value u) w' => u = v ∧ C w'
  | .ok (.enter f args) w' => (F.depth.isSome = true → 1 ≤ n) ∧ CallsIn F (n - 1) P f args w' fun e w'' => e = .returned v ∧ C w''
  | _ => False
def asked (F : Fence) (P : Program) (D : Nat → World → Prop) (o : Oper) (a : Act) : Prop := ∀ q : Un D, ∀ f, o.about P q.W a.eval = some f → F.fn f
def YR (F : Fence) (P : Program) (ops : Array Oper) (D : Nat → World → Prop) (o : Oper) (v : Value) (a : Act) : Prop :=
  (Region.wanted o (yielded ops a.tmps) = true ∧ ∀ q : Un D, pureUpon q.W v ((execOp a.eval o).run P q.W)) ∨ (Region.wanted o (yielded ops a.tmps) = false ∧ v = undef)
def YM (F : Fence) (n : Nat) (P : Program) (ops : Array Oper) (D : Nat → World → Prop) (s : Nat) (o : Oper) (v : Value) (a : Act) : Prop :=
  Region.wanted o (yielded ops a.tmps) = true ∧ ∀ w, D s w → stepUpon F n P (D (s + 1)) v ((execOp a.eval o).run P w)
def Y (F : Fence) (n : Nat) (P : Program) (ops : Array Oper) (D : Nat → World → Prop) (m : Bool) (s : Nat) (o : Oper) (v : Value) (a : Act) : Prop := asked F P D o a ∧ if m = true then YM F n P ops D s o v a else YR F P ops D o v a
theorem Y.move {m : Bool} {s s' : Nat} {o : Oper} {v : Value} {a a' : Act} (h : Y F n P ops D m s o v a) (hs : m = true → s' = s) (he : execOp a'.eval o = execOp a.eval o) (hw : Region.wanted o (yielded ops a'.tmps) = Region.wanted o (yielded ops a.tmps)) (hb : ∀ w, o.about P w a'.eval = o.about P w a.eval) : Y F n P ops D m s' o v a' := by
  refine ⟨fun q f hf => h.1 q f (by rw [← hb]; exact hf), ?_⟩
  have h := h.2
  cases m
  · simp only [YR, Bool.false_eq_true, if_false] at h ⊢; rw [he, hw]; exact h
  · simp only [YM, if_true] at h ⊢; rw [he, hw, hs rfl]; exact h
theorem opIn_of_Y {m : Bool} {s i : Nat} {o : Oper} {v : Value} {a : Act} {w : World} {K : Act → World → Prop} {Q' : Exit → Act → World → Prop} (hnd : noDefer ops = true) (hi : ops[i]? = some o) (hy : Y F n P ops D m s o v a) (hD : D s w) (hK : ∀ w', D (s + m.toNat) w' → K (a.put o.dst v) w') : wpOpIn F n P ops Q' i K a w := by
  unfold wpOpIn
  simp only [hi]
  obtain ⟨ha, hy⟩ := hy
  have ha' := ha ⟨s, w, hD⟩
  cases m
  · simp only [YR, Bool.false_eq_true, if_false] at hy
    rcases hy with ⟨hw, h⟩ | ⟨hw, rfl⟩
    · simp only [hw, if_true]
      have h3 := h ⟨s, w, hD⟩
      refine ⟨ha', ?_⟩
      rw [Oper.semAt_eq _ _ _ (noDefer_at hnd hi)]
      generalize (execOp a.eval o).run P w = r at *
      match r, h3 with
      | .ok (.value u) w', h3 => obtain ⟨e1, e2⟩ := h3; subst e1; subst e2; exact hK _ hD
      | .ok .skip w', h3 => obtain ⟨e1, e2⟩ := h3; subst e1; subst e2; exact hK _ hD
    · simp only [hw, Bool.false_eq_true, if_false]; exact ⟨ha', hK _ hD⟩
  · simp only [YM, if_true] at hy
    obtain ⟨hw, h⟩ := hy
    simp only [hw, if_true]
    have h3 := h w hD
    refine ⟨ha', ?_⟩
    rw [Oper.semAt_eq _ _ _ (noDefer_at hnd hi)]
    generalize (execOp a.eval o).run P w = r at *
    cases r with
    | halt x w' => exact h3.elim
    | ok x w' =>
      cases x <;> simp only [stepUpon] at h3 <;> simp only [Oper.uponIn]
      case value u => obtain ⟨e1, e2⟩ := h3; rw [e1]; exact hK _ e2
      case enter f args =>
        obtain ⟨hd, hc⟩ := h3
        exact ⟨hd, hc.mono fun e w'' ⟨he, hw''⟩ => by subst he; exact hK _ hw''⟩
/-- the head in whatever order -/
def wpM (F : Fence) (n : Nat) (P : Program) (md : Region.Mode) (ops : Array Oper) (D : Nat → World → Prop) (hd mk : Nat → Bool) (L : Array Bool → Act → Nat → Prop) : Nat → Array Bool → Act → Nat → Prop
  | 0, listed, a, s => L listed a s
  | f + 1, listed, a, s => Region.ready md ops listed ≠ [] ∧ ∀ i ∈ Region.ready md ops listed, hd i = true ∧ ∃ o v, ops[i]? = some o ∧ Y F n P ops D (mk i) s o v a ∧ wpM F n P md ops D hd mk L f (listed.setIfInBounds i true) (a.put o.dst v) (s + (mk i).toNat)
theorem anyIn_of_M {hd mk : Nat → Bool} {g : Nat} {L : Array Bool → Act → Nat → Prop} {Q' : Exit → Act → World → Prop} (hnd : noDefer ops = true) (hL : ∀ listed a s, L listed a s → ∀ w, D s w → wpAnyIn F n P md ops Q' g listed a w) :
    ∀ (f : Nat) (listed : Array Bool) (a : Act) (s : Nat) (w : World), D s w → wpM F n P md ops D hd mk L f listed a s → wpAnyIn F n P md ops Q' (f + g) listed a w
  | 0, listed, a, s, w, hw, h => by rw [Nat.zero_add]; exact hL _ _ _ h w hw
  | f + 1, listed, a, s, w, hw, h => by
    rw [show f + 1 + g = (f + g) + 1 by omega]
    refine ⟨fun h0 => absurd h0 h.1, fun i hi => ?_⟩
    obtain ⟨_, o, v, ho, hy, hK⟩ := h.2 i hi
    exact opIn_of_Y hnd ho hy hw fun w' hw' => anyIn_of_M hnd hL f _ _ _ w' hw' hK
theorem wpM_first {hd mk : Nat → Bool} {i : Nat} {oi : Oper} {v : Value} {L : Array Bool → Act → Nat → Prop} (hi : ops[i]? = some oi) (hsel : ∀ (j : Nat) (o : Oper) cs b, ops[j]? = some o → o.op ≠ .select cs b) (hin : hd i = true)
    (hdone : ∀ listed a s, L listed a s → ∀ j ∈ Region.ready md ops listed, hd j = false)
    (hch : mk i = true → ∀ j oj, ops[j]? = some oj → mk j = true → i < j → (ups md ops i ops.size).getD j false = true) :
    ∀ (f : Nat) (listed : Array Bool) (a : Act) (s : Nat), Closed md ops listed → (∀ t, t < ops.size → hd t = false → listed.getD t true = false → (ups md ops i ops.size).getD t false = true) →
      (mk i = true → ∀ j, j < i → mk j = true → listed.getD j true = true) →
      (∀ j oj, ops[j]? = some oj → j ≠ i → listed.getD j true = false → (∀ e ∈ oj.after, Region.binds md e = true → e.on ≠ i) → oi.apart ops oj = true) →
      i ∈ Region.ready md ops listed → Y F n P ops D (mk i) s oi v a →
      wpM F n P md ops D hd mk L f (listed.setIfInBounds i true) (a.put oi.dst v) (s + (mk i).toNat) → wpM F n P md ops D hd mk L (f + 1) listed a s := by
  intro f
  have key : ∀ (listed : Array Bool), Closed md ops listed → (∀ t, t < ops.size → hd t = false → listed.getD t true = false → (ups md ops i ops.size).getD t false = true) → i ∈ Region.ready md ops listed → ∀ j ∈ Region.ready md ops listed, hd j = true := by
    intro listed hc ht hr j hj
    cases hh : hd j with
    | true => rfl
    | false =>
      have hju := (mem_ready.1 hj).1
      obtain ⟨o, ho, _⟩ := (mem_ready.1 hj).2
      have hne : j ≠ i := fun e => by rw [e, hin] at hh; cases hh
      exact absurd hj (not_ready hc (getD_both (mem_ready.1 hr).1) (ht j (Array.getElem?_eq_some_iff.1 ho).1 hh hju) hne)
  induction f with
  | zero =>
    intro listed a s hc ht _ _ hr hy H
    refine ⟨fun h => (by rw [h] at hr; cases hr), fun j hj => ?_⟩
    refine ⟨key listed hc ht hr j hj, ?_⟩
    by_cases hji : j = i
    · subst hji; exact ⟨oi, v, hi, hy, H⟩
    · have h1 := hdone _ _ _ H j (ready_mono hj hji)
      rw [key listed hc ht hr j hj] at h1; cases h1
  | succ f ih =>
    intro listed a s hc ht hbe hfree hr hy H
    refine ⟨fun h => (by rw [h] at hr; cases hr), fun j hj => ?_⟩
    refine ⟨key listed hc ht hr j hj, ?_⟩
    by_cases hji : j = i
    · subst hji; exact ⟨oi, v, hi, hy, H⟩
    · obtain ⟨_, oj, u, hoj, hyj, hK⟩ := H.2 j (ready_mono hj hji)
      obtain ⟨hjun, oj', hoj', hall⟩ := mem_ready.1 hj
      obtain rfl : oj = oj' := Option.some.inj (hoj.symm.trans hoj')
      have hnot : ∀ e ∈ oj.after, Region.binds md e = true → e.on ≠ i := fun e he hb heq => by
        have h1 := hall e he hb
        rw [heq, getD_both (mem_ready.1 hr).1] at h1
        cases h1
      have hap := hfree j oj hoj hji hjun hnot
      obtain ⟨p1, p2, p3⟩ := Oper.apart_spec hap
      have onem : mk i = true → mk j = false := fun hmi => by
        cases hmj : mk j with
        | false => rfl
        | true =>
          rcases Nat.lt_or_ge i j with hl | hl
          · exact absurd hj (not_ready hc (getD_both (mem_ready.1 hr).1) (hch hmi j oj hoj hmj hl) hji)
          · have := hbe hmi j (by omega) hmj
            rw [hjun] at this; cases this
      have hyj' : Y F n P ops D (mk j) s oj u a := hyj.move (fun hmj => by
          cases hmi : mk i with
          | false => rfl
          | true => rw [onem hmi] at hmj; cases hmj) (execOp_put oj (fun cs b => hsel j oj cs b hoj) a oi.dst v p1).symm (wanted_put oj a oi.dst v p1).symm (fun w => (about_put oj w a oi.dst v p1).symm)
      refine ⟨oj, u, hoj, hyj', ?_⟩
      have un : ∀ k, (listed.setIfInBounds j true).getD k true = false → listed.getD k true = false := fun k hk => by
        by_cases hjk : j = k
        · subst hjk; exact hjun
        · rw [getD_set_ne true hjk] at hk; exact hk
      refine ih (listed.setIfInBounds j true) (a.put oj.dst u) (s + (mk j).toNat) (hc.set hj) (fun t ht1 ht2 ht3 => ht t ht1 ht2 (un t ht3)) (fun hmi k hk hmk => ?_) (fun k ok hk hki hun hno => hfree k ok hk hki (un k hun) hno) (ready_mono hr (Ne.symm hji)) (hy.move (fun hmi => by rw [onem hmi]; rfl) (execOp_put oi (fun cs b => hsel i oi cs b hi) a oj.dst u p3) (wanted_put oi a oj.dst u p3) (fun w => about_put oi w a oj.dst u p3)) ?_
      · cases hx : (listed.setIfInBounds j true).getD k true with
        | true => rfl
        | false =>
          have h1 := hbe hmi k hk hmk
          rw [un k hx] at h1; cases h1
      · rw [Array.setIfInBounds_comm _ _ hji, ← Act.put_comm a v u p2, Nat.add_right_comm]
        exact hK
/-- the walk in the text's order -/
def wpT (F : Fence) (n : Nat) (P : Program) (ops : Array Oper) (D : Nat → World → Prop) (Q : Act → Nat → Prop) : List Bool → List Oper → Act → Nat → Prop
  | _, [], a, s => Q a s
  | true :: m, o :: r, a, s => ∃ v, asked F P D o a ∧ YM F n P ops D s o v a ∧ wpT F n P ops D Q m r (a.put o.dst v) (s + 1)
  | false :: m, o :: r, a, s => ∃ v, asked F P D o a ∧ YR F P ops D o v a ∧ wpT F n P ops D Q m r (a.put o.dst v) s
  | [], _ :: _, _, _ => False
def movB (md : Region.Mode) (ops : Array Oper) (hd : Nat → Bool) : Nat → Nat → Array Bool → Bool
  | 0, _, listed => (Region.ready md ops listed).all fun j => !hd j
  | f + 1, k, listed => (Region.ready md ops listed).contains k && Region.free md ops listed k && hd k && ((List.range ops.size).all fun t => hd t || listed.getD t true || (ups md ops k ops.size).getD t false) && movB md ops hd f (k + 1) (listed.setIfInBounds k true)
def setN : Nat → Nat → Array Bool → Array Bool
  | 0, _, listed => listed
  | f + 1, k, listed => setN f (k + 1) (listed.setIfInBounds k true)
theorem movB_done {hd : Nat → Bool} : ∀ (f k : Nat) (listed : Array Bool), movB md ops hd f k listed = true → ∀ j ∈ Region.ready md ops (setN f k listed), hd j = false
  | 0, k, listed, h, j, hj => by
    have := List.all_eq_true.1 h j hj
    simpa using this
  | f + 1, k, listed, h, j, hj => by
    simp only [movB, Bool.and_eq_true] at h
    exact movB_done f (k + 1) _ h.2 j hj
def chainU (md : Region.Mode) (ops : Array Oper) (m : List Bool) : Bool :=
  (List.range ops.size).all fun i => !(m.getD i false) || (List.range ops.size).all fun j => !(m.getD j false) || !(decide (i < j)) || (ups md ops i ops.size).getD j false
theorem wpM_lex {hd mk : Nat → Bool} {Lq : Act → Nat → Prop} {FF : Array Bool} (hs : Region.noSelect ops = true) (hF : ∀ j ∈ Region.ready md ops FF, hd j = false) (hch : ∀ i, mk i = true → ∀ j oj, ops[j]? = some oj → mk j = true → i < j → (ups md ops i ops.size).getD j false = true) :
    ∀ (l : List Oper) (m : List Bool) (k : Nat) (listed : Array Bool) (a : Act) (s : Nat), (∀ j, j < l.length → l[j]? = ops[k + j]?) → (∀ j, j < l.length → m[j]? = some (mk (k + j))) → (∀ j, j < k → listed.getD j true = true) → Closed md ops listed → movB md ops hd l.length k listed = true → setN l.length k listed = FF → wpT F n P ops D Lq m l a s →
    wpM F n P md ops D hd mk (fun listed' a' s' => listed' = FF ∧ Lq a' s') l.length listed a s
  | [], m, _, _, _, _, _, _, _, _, _, hset, h => ⟨hset, by cases m <;> exact h⟩
  | o :: l, m, k, listed, a, s, hl, hm, hbe, hc, hB, hset, h => by
    have h0 : ops[k]? = some o := by simpa using (hl 0 (by simp)).symm
    simp only [List.length_cons, movB, Bool.and_eq_true] at hB
    obtain ⟨⟨⟨⟨hr, hf⟩, hk⟩, ht⟩, hB'⟩ := hB
    have hr' : k ∈ Region.ready md ops listed := by simpa using hr
    have hm0 := hm 0 (by simp)
    have hbe' : ∀ j, j < k + 1 → (listed.setIfInBounds k true).getD j true = true := fun j hj => by
      by_cases hjk : k = j
      · subst hjk
        rcases Nat.lt_or_ge k listed.size with h' | h'
        · simp [h']
        · simp [h']
      · rw [getD_set_ne true hjk]; exact hbe j (by omega)
    have hl' : ∀ j, j < l.length → l[j]? = ops[k + 1 + j]? := fun j hj => by have := hl (j + 1) (by simpa using hj); simpa [Nat.add_assoc, Nat.add_comm 1 j] using this
    have ht' : ∀ t, t < ops.size → hd t = false → listed.getD t true = false → (ups md ops k ops.size).getD t false = true := fun t ht1 ht2 ht3 => by
      have h3 := List.all_eq_true.1 ht t (List.mem_range.2 ht1)
      rw [ht2, ht3] at h3
      simpa using h3
    match m, hm0, hm, h with
    | [], hm0, _, _ => simp at hm0
    | b :: m, hm0, hm, h =>
      have hb : b = mk k := by simpa using hm0
      have hm' : ∀ j, j < l.length → m[j]? = some (mk (k + 1 + j)) := fun j hj => by have := hm (j + 1) (by simpa using hj); simpa [Nat.add_assoc, Nat.add_comm 1 j] using this
      have fin : ∀ v, Y F n P ops D b s o v a → wpT F n P ops D Lq m l (a.put o.dst v) (s + b.toNat) → wpM F n P md ops D hd mk (fun listed' a' s' => listed' = FF ∧ Lq a' s') (l.length + 1) listed a s := fun v hy hK => by
        refine wpM_first h0 (Region.noSelect_spec hs) hk (fun _ _ _ hL => by rw [hL.1]; exact hF) (hch k) l.length listed a s hc ht' (fun _ j hj _ => hbe j hj) (Region.free_spec h0 hf) hr' (v := v) (by rw [← hb]; exact hy) ?_
        rw [← hb]
        exact wpM_lex hs hF hch l m (k + 1) _ _ _ hl' hm' hbe' (hc.set hr') hB' (by simpa [setN] using hset) hK
      cases b with
      | true =>
        obtain ⟨v, ha, hy, hK⟩ := h
        exact fin v ⟨ha, by simpa using hy⟩ hK
      | false =>
        obtain ⟨v, ha, hy, hK⟩ := h
        exact fin v ⟨ha, by simpa using hy⟩ hK
/-- the region -/
theorem region {id : Nat} {Q : Exit → Act → World → Prop} {a : Act} {w : World} {l : List Oper} (k : Nat) (m : List Bool) (hnd : noDefer l.toArray = true) (hm : P.follows .mixedOrders = true)
    (hB : (Region.noSelect l.toArray && closedB .any l.toArray (Array.replicate l.length false) && decide (k ≤ l.length) && chainU .any l.toArray m && m.length == k && movB .any l.toArray (fun t => decide (t < k)) k 0 (Array.replicate l.length false) && Region.seqB .any l.toArray (l.drop k).length k (setN k 0 (Array.replicate l.length false))) = true) (hC : D 0 w.drew)
    (h : wpT F n P l.toArray D (fun a' s => ∀ w', D s w' → wpListIn F n P l.toArray Q (l.drop k) a' w') m (l.take k) a 0) : (Code.region id l.toArray true).wpIn F n P Q a w := by
  simp only [Bool.and_eq_true, decide_eq_true_eq, beq_iff_eq] at hB
  obtain ⟨⟨⟨⟨⟨⟨h1, h2⟩, h3⟩, h4⟩, h5⟩, h6⟩, h7⟩ := hB
  refine wpIn_region_any hm ?_
  have hlen : (l.take k).length = k := by simp; omega
  have X := wpM_lex (F := F) (n := n) (P := P) (D := D) (md := .any) (hd := fun t => decide (t < k)) (mk := fun t => m.getD t false) (Lq := fun a' s => ∀ w', D s w' → wpListIn F n P l.toArray Q (l.drop k) a' w') (FF := setN k 0 (Array.replicate l.length false)) h1 (movB_done k 0 _ h6)
    (fun i hi j oj hoj hj hij => ?_) (l.take k) m 0 (Array.replicate l.length false) a 0 (fun j hj => by rw [List.getElem?_take, if_pos (by omega)]; simp) (fun j hj => by simp [List.getD_eq_getElem?_getD, List.getElem?_eq_getElem (show j < m.length by omega)]) (fun j hj => by omega) (closed_of h2) (by rw [hlen]; exact h6) (by rw [hlen]) h
  · have H := anyIn_of_M (Q' := Q) (g := (l.drop k).length) hnd (fun listed' a' s hL w' hw' => by rw [hL.1]; exact wpAnyIn_of_seq (l.drop k) k _ a' w' (fun j => by simp [List.getElem?_drop]) h7 (hL.2 w' hw')) _ _ _ _ w.drew hC X
    rw [hlen, show k + (l.drop k).length = l.length by simp; omega] at H
    simpa using H
  · have hjl : j < l.toArray.size := (Array.getElem?_eq_some_iff.1 hoj).1
    have hi' : m.getD i false = true := hi
    have hj' : m.getD j false = true := hj
    have hil : i < l.toArray.size := by omega
    have g1 := List.all_eq_true.1 h4 i (List.mem_range.2 hil)
    rw [hi'] at g1
    simp only [Bool.not_true, Bool.false_or] at g1
    have g2 := List.all_eq_true.1 g1 j (List.mem_range.2 hjl)
    rw [hj', decide_eq_true hij] at g2
    simpa using g2
/-! ### the walk, step by step -/
theorem nil_step {Q : Act → Nat → Prop} {m : List Bool} {a : Act} {s : Nat} (h : Q a s) : wpT F n P ops D Q m [] a s := by cases m <;> exact h
theorem pure_step {Q : Act → Nat → Prop} {m : List Bool} {o : Oper} {r : List Oper} {a : Act} {s : Nat} (ha : asked F P D o a)
    (h : ∀ K : Act → Prop, (∀ a, wpT F n P ops D Q m r a s → K a) → if Region.wanted o (yielded ops a.tmps) then (∃ v, (∀ q : Un D, pureUpon q.W v ((execOp a.eval o).run P q.W)) ∧ K (a.put o.dst v)) else K (a.put o.dst undef)) : wpT F n P ops D Q (false :: m) (o :: r) a s := by
  have h' := h _ fun _ h => h
  by_cases hw : Region.wanted o (yielded ops a.tmps) = true
  · simp only [hw, if_true] at h'
    obtain ⟨v, h1, h2⟩ := h'
    exact ⟨v, ha, .inl ⟨hw, h1⟩, h2⟩
  · simp only [hw, Bool.false_eq_true, if_false] at h'
    exact ⟨undef, ha, .inr ⟨by simpa using hw, rfl⟩, h'⟩
theorem move_step {Q : Act → Nat → Prop} {m : List Bool} {o : Oper} {r : List Oper} {a : Act} {s : Nat} {v : Value} (ha : asked F P D o a) (hw : Region.wanted o (yielded ops a.tmps) = true) (h1 : ∀ w, D s w → stepUpon F n P (D (s + 1)) v ((execOp a.eval o).run P w))
    (h : ∀ K : Act → Prop, (∀ a, wpT F n P ops D Q m r a (s + 1) → K a) → K (a.put o.dst v)) : wpT F n P ops D Q (true :: m) (o :: r) a s := ⟨v, ha, ⟨hw, h1⟩, h _ fun _ h => h⟩
end Go.Proofs.YtgpfhgkphadgkaaDoor.move
