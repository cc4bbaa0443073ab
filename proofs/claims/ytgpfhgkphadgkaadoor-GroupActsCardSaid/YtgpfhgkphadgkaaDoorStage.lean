/- A region that draws its order and whose calls write, one behind the other: one walk in the text's order serves every order, over worlds that have stages. A call leads from its stage to the next one; every other operation yields one value in the worlds of all stages, and leaves them as they are. No program is named. -/
import Derived.Deep.Quiet
import Derived.Deep.QuietTactic
import Derived.ProofKit
import Derived.WalkKit
namespace Go.Proofs.YtgpfhgkphadgkaaDoor.stage
open Go Go.RowKit
variable {P : Program} {ops : Array Oper} {md : Region.Mode} {D : Nat → World → Prop}

/-- a world of some stage -/
structure Un (D : Nat → World → Prop) where
  s : Nat
  W : World
  h : D s W
def pureUpon (w : World) (v : Value) : Result Next → Prop
  | .ok (.value u) w' => w' = w ∧ u = v
  | .ok .skip w' => w' = w ∧ v = undef
  | _ => False
def callUpon (P : Program) (C : World → Prop) (w : World) (v : Value) : Result Next → Prop
  | .ok (.enter f args) w' => w' = w ∧ Calls P f args w fun e w'' => e = .returned v ∧ C w''
  | _ => False
/-- an operation that is no call: one value in all stages -/
def YP (P : Program) (ops : Array Oper) (D : Nat → World → Prop) (o : Oper) (v : Value) (a : Act) : Prop :=
  (Region.wanted o (yielded ops a.tmps) = true ∧ ∀ w, (∃ n : Un D, w = n.W) → pureUpon w v ((execOp a.eval o).run P w)) ∨ (Region.wanted o (yielded ops a.tmps) = false ∧ v = undef)
/-- a call from a stage to the next one -/
def YC (P : Program) (ops : Array Oper) (D : Nat → World → Prop) (s : Nat) (o : Oper) (v : Value) (a : Act) : Prop :=
  Region.wanted o (yielded ops a.tmps) = true ∧ ∀ w, D s w → callUpon P (D (s + 1)) w v ((execOp a.eval o).run P w)
def Y (P : Program) (ops : Array Oper) (D : Nat → World → Prop) (m : Bool) (s : Nat) (o : Oper) (v : Value) (a : Act) : Prop := if m = true then YC P ops D s o v a else YP P ops D o v a
theorem Y.move {m : Bool} {s s' : Nat} {o : Oper} {v : Value} {a a' : Act} (h : Y P ops D m s o v a) (hs : m = true → s' = s) (he : execOp a'.eval o = execOp a.eval o) (hw : Region.wanted o (yielded ops a'.tmps) = Region.wanted o (yielded ops a.tmps)) : Y P ops D m s' o v a' := by
  cases m
  · simp only [Y, YP, Bool.false_eq_true, if_false] at h ⊢; rw [he, hw]; exact h
  · simp only [Y, YC, if_true] at h ⊢; rw [he, hw, hs rfl]; exact h
/-- what comes of every order from here on -/
def wpS (P : Program) (md : Region.Mode) (ops : Array Oper) (D : Nat → World → Prop) (mk : Nat → Bool) (Q : Act → Nat → Prop) : Nat → Array Bool → Act → Nat → Prop
  | 0, listed, a, s => Region.ready md ops listed = [] ∧ Q a s
  | f + 1, listed, a, s => (Region.ready md ops listed = [] → Q a s) ∧
    ∀ i ∈ Region.ready md ops listed, ∃ o v, ops[i]? = some o ∧ Y P ops D (mk i) s o v a ∧ wpS P md ops D mk Q f (listed.setIfInBounds i true) (a.put o.dst v) (s + (mk i).toNat)
theorem wpOp_of_Y {m : Bool} {s i : Nat} {o : Oper} {v : Value} {a : Act} {w : World} {K : Act → World → Prop} {Q' : Exit → Act → World → Prop} (hi : ops[i]? = some o) (hy : Y P ops D m s o v a) (hD : D s w) (hK : ∀ w', D (s + m.toNat) w' → K (a.put o.dst v) w') : wpOp P ops Q' i K a w := by
  unfold wpOp
  simp only [hi]
  cases m
  · simp only [Y, YP, Bool.false_eq_true, if_false] at hy
    rcases hy with ⟨hw, h⟩ | ⟨hw, rfl⟩
    · simp only [hw, if_true]
      refine .inl ?_
      have h3 := h w ⟨⟨s, w, hD⟩, rfl⟩
      unfold Oper.wp
      generalize (execOp a.eval o).run P w = r at *
      cases r with
      | halt x w' => exact h3.elim
      | ok n w' =>
        cases n <;> simp only [pureUpon] at h3 <;> simp only [Oper.upon]
        case value u => obtain ⟨e1, e2⟩ := h3; rw [e1, e2]; exact hK _ hD
        case skip => obtain ⟨e1, e2⟩ := h3; rw [e1, ← e2]; exact hK _ hD
    · simp only [hw, Bool.false_eq_true, if_false]; exact hK _ hD
  · simp only [Y, YC, if_true] at hy
    obtain ⟨hw, h⟩ := hy
    simp only [hw, if_true]
    refine .inl ?_
    have h3 := h w hD
    unfold Oper.wp
    generalize (execOp a.eval o).run P w = r at *
    cases r with
    | halt x w' => exact h3.elim
    | ok n w' =>
      cases n <;> simp only [callUpon] at h3 <;> simp only [Oper.upon]
      case enter f args =>
        obtain ⟨e1, hc⟩ := h3
        rw [e1]
        exact hc.mono fun e w'' ⟨he, hw''⟩ => by subst he; exact hK _ hw''
theorem wpAny_of_S {mk : Nat → Bool} {Q : Act → Nat → Prop} {Q' : Exit → Act → World → Prop} (hQ : ∀ a w s, D s w → Q a s → Q' .normal a w) : ∀ (f : Nat) (listed : Array Bool) (a : Act) (s : Nat) (w : World), D s w → wpS P md ops D mk Q f listed a s → wpAny P md ops Q' f listed a w
  | 0, _, _, _, _, hw, h => ⟨h.1, hQ _ _ _ hw h.2⟩
  | f + 1, _, _, _, _, hw, h => ⟨fun h0 => hQ _ _ _ hw (h.1 h0), fun i hi => by
      obtain ⟨o, v, ho, hy, hK⟩ := h.2 i hi
      exact wpOp_of_Y ho hy hw fun w' hw' => wpAny_of_S hQ f _ _ _ w' hw' hK⟩
/-- whoever may come now may come first -/
theorem wpS_first {mk : Nat → Bool} {Q : Act → Nat → Prop} {i : Nat} {oi : Oper} {v : Value} (hi : ops[i]? = some oi) (hsel : ∀ (j : Nat) (o : Oper) cs b, ops[j]? = some o → o.op ≠ .select cs b)
    (hch : mk i = true → ∀ j oj, ops[j]? = some oj → mk j = true → i < j → ∃ e ∈ oj.after, Region.binds md e = true ∧ e.on = i) :
    ∀ (f : Nat) (listed : Array Bool) (a : Act) (s : Nat), (mk i = true → ∀ j, j < i → mk j = true → listed.getD j true = true) →
      (∀ j oj, ops[j]? = some oj → j ≠ i → listed.getD j true = false → (∀ e ∈ oj.after, Region.binds md e = true → e.on ≠ i) → oi.apart ops oj = true) →
      i ∈ Region.ready md ops listed → Y P ops D (mk i) s oi v a →
      wpS P md ops D mk Q f (listed.setIfInBounds i true) (a.put oi.dst v) (s + (mk i).toNat) → wpS P md ops D mk Q (f + 1) listed a s := by
  intro f
  induction f with
  | zero =>
    intro listed a s _ _ hr hy H
    refine ⟨fun h => (by rw [h] at hr; cases hr), fun j hj => ?_⟩
    by_cases hji : j = i
    · subst hji; exact ⟨oi, v, hi, hy, H⟩
    · have h1 := ready_mono hj hji
      rw [H.1] at h1; cases h1
  | succ f ih =>
    intro listed a s hbe hfree hr hy H
    refine ⟨fun h => (by rw [h] at hr; cases hr), fun j hj => ?_⟩
    by_cases hji : j = i
    · subst hji; exact ⟨oi, v, hi, hy, H⟩
    · obtain ⟨oj, u, hoj, hyj, hK⟩ := H.2 j (ready_mono hj hji)
      obtain ⟨hjun, oj', hoj', hall⟩ := mem_ready.1 hj
      obtain rfl : oj = oj' := Option.some.inj (hoj.symm.trans hoj')
      have hiun := (mem_ready.1 hr).1
      have hnot : ∀ e ∈ oj.after, Region.binds md e = true → e.on ≠ i := fun e he hb heq => by
        have h1 := hall e he hb
        rw [heq] at h1
        rcases Nat.lt_or_ge i listed.size with h' | h'
        · simp [h'] at hiun h1; rw [hiun] at h1; cases h1
        · simp [Array.getElem?_eq_none h'] at h1
      have hap := hfree j oj hoj hji hjun hnot
      obtain ⟨p1, p2, p3⟩ := Oper.apart_spec hap
      have one : mk i = true → mk j = false := fun hmi => by
        cases hmj : mk j with
        | false => rfl
        | true =>
          rcases Nat.lt_or_ge i j with hl | hl
          · obtain ⟨e, he, hb, hon⟩ := hch hmi j oj hoj hmj hl
            exact absurd hon (hnot e he hb)
          · have := hbe hmi j (by omega) hmj
            rw [hjun] at this; cases this
      have hyj' : Y P ops D (mk j) s oj u a := hyj.move (fun hmj => by
          cases hmi : mk i with
          | false => rfl
          | true => rw [one hmi] at hmj; cases hmj) (execOp_put oj (fun cs b => hsel j oj cs b hoj) a oi.dst v p1).symm (wanted_put oj a oi.dst v p1).symm
      refine ⟨oj, u, hoj, hyj', ?_⟩
      have un : ∀ k, (listed.setIfInBounds j true).getD k true = false → listed.getD k true = false := fun k hk => by
        by_cases hjk : j = k
        · subst hjk; exact hjun
        · rw [getD_set_ne true hjk] at hk; exact hk
      refine ih (listed.setIfInBounds j true) (a.put oj.dst u) (s + (mk j).toNat) (fun hmi k hk hmk => ?_) (fun k ok hk hki hun hno => hfree k ok hk hki (un k hun) hno) (ready_mono hr (Ne.symm hji)) (hy.move (fun hmi => by rw [one hmi]; rfl) (execOp_put oi (fun cs b => hsel i oi cs b hi) a oj.dst u p3) (wanted_put oi a oj.dst u p3)) ?_
      · cases hx : (listed.setIfInBounds j true).getD k true with
        | true => rfl
        | false =>
          have h1 := hbe hmi k hk hmk
          rw [un k hx] at h1; cases h1
      · rw [Array.setIfInBounds_comm _ _ hji, ← Act.put_comm a v u p2, Nat.add_right_comm]
        exact hK
/-- the walk in the text's order; from k on -/
def wpT (P : Program) (ops : Array Oper) (D : Nat → World → Prop) (Q : Act → Nat → Prop) : List Bool → List Oper → Act → Nat → Prop
  | _, [], a, s => Q a s
  | true :: m, o :: r, a, s => ∃ v, YC P ops D s o v a ∧ wpT P ops D Q m r (a.put o.dst v) (s + 1)
  | false :: m, o :: r, a, s => ∃ v, YP P ops D o v a ∧ wpT P ops D Q m r (a.put o.dst v) s
  | [], _ :: _, _, _ => False
/-- the calls wait for one another -/
def chainB (md : Region.Mode) (ops : Array Oper) (m : List Bool) : Bool :=
  (List.range ops.size).all fun i => !(m.getD i false) || (List.range ops.size).all fun j => !(m.getD j false) || !(decide (i < j)) || match ops[j]? with
    | some oj => oj.after.any fun e => Region.binds md e && e.on == i
    | none => true
theorem wpS_lex {mk : Nat → Bool} {Q : Act → Nat → Prop} (hs : Region.noSelect ops = true) (hch : ∀ i, mk i = true → ∀ j oj, ops[j]? = some oj → mk j = true → i < j → ∃ e ∈ oj.after, Region.binds md e = true ∧ e.on = i) :
    ∀ (l : List Oper) (m : List Bool) (k : Nat) (listed : Array Bool) (a : Act) (s : Nat), (∀ j, l[j]? = ops[k + j]?) → (∀ j, j < l.length → m[j]? = some (mk (k + j))) → (∀ j, j < k → listed.getD j true = true) → Region.lexFrom md ops l.length k listed = true →
    wpT P ops D Q m l a s → wpS P md ops D mk Q l.length listed a s
  | [], m, _, _, _, _, _, _, _, hB, h => ⟨by simpa [Region.lexFrom] using hB, by cases m <;> simpa [wpT] using h⟩
  | o :: l, m, k, listed, a, s, hl, hm, hbe, hB, h => by
    have h0 : ops[k]? = some o := by simpa using (hl 0).symm
    simp only [List.length_cons, Region.lexFrom, Bool.and_eq_true] at hB
    obtain ⟨⟨hr, hf⟩, hB'⟩ := hB
    have hm0 := hm 0 (by simp)
    have hbe' : ∀ j, j < k + 1 → (listed.setIfInBounds k true).getD j true = true := fun j hj => by
      by_cases hjk : k = j
      · subst hjk
        rcases Nat.lt_or_ge k listed.size with h' | h'
        · simp [h']
        · simp [h']
      · rw [getD_set_ne true hjk]; exact hbe j (by omega)
    have hl' : ∀ j, l[j]? = ops[k + 1 + j]? := fun j => by have := hl (j + 1); simpa [Nat.add_assoc, Nat.add_comm 1 j] using this
    match m, hm0, hm, h with
    | [], hm0, _, _ => simp at hm0
    | b :: m, hm0, hm, h =>
      have hb : b = mk k := by simpa using hm0
      have hm' : ∀ j, j < l.length → m[j]? = some (mk (k + 1 + j)) := fun j hj => by have := hm (j + 1) (by simpa using hj); simpa [Nat.add_assoc, Nat.add_comm 1 j] using this
      cases b with
      | true =>
        obtain ⟨v, hy, hK⟩ := h
        refine wpS_first h0 (Region.noSelect_spec hs) (hch k) l.length listed a s (fun _ j hj _ => hbe j hj) (Region.free_spec h0 hf) (by simpa using hr) (v := v) (by rw [← hb]; simpa [Y] using hy) ?_
        rw [← hb]
        exact wpS_lex hs hch l m (k + 1) _ _ _ hl' hm' hbe' hB' hK
      | false =>
        obtain ⟨v, hy, hK⟩ := h
        refine wpS_first h0 (Region.noSelect_spec hs) (hch k) l.length listed a s (fun _ j hj _ => hbe j hj) (Region.free_spec h0 hf) (by simpa using hr) (v := v) (by rw [← hb]; simpa [Y] using hy) ?_
        rw [← hb]
        exact wpS_lex hs hch l m (k + 1) _ _ _ hl' hm' hbe' hB' hK
/-- A region whose calls, marked in m, lead from stage to stage. -/
theorem wp_region_stages {id : Nat} {Q : Exit → Act → World → Prop} {a : Act} {w : World} {l : List Oper} (m : List Bool) (hm : P.follows .mixedOrders = true) (hB : (Region.lexB .any l.toArray && chainB .any l.toArray m && m.length == l.length) = true) (hC : D 0 w.drew)
    (h : wpT P l.toArray D (fun a' s => ∀ w', D s w' → Q .normal a' w') m l a 0) : (Code.region id l.toArray true).wp P Q a w := by
  simp only [Region.lexB, Bool.and_eq_true, beq_iff_eq] at hB
  obtain ⟨⟨⟨hs, hx⟩, hc⟩, hlen⟩ := hB
  refine wp_region_any hm (wpAny_of_S (D := D) (mk := fun k => m.getD k false) (Q := fun a' s => ∀ w', D s w' → Q .normal a' w') (fun _ w' _ hw' h => h w' hw') _ _ _ 0 _ hC ?_)
  have := wpS_lex (P := P) (D := D) (md := .any) (mk := fun k => m.getD k false) (Q := fun a' s => ∀ w', D s w' → Q .normal a' w') hs (fun i hi j oj hoj hj hij => ?_) l m 0 (Array.replicate l.toArray.size false) a 0 (by simp) (fun j hj => by simp [List.getD_eq_getElem?_getD, List.getElem?_eq_getElem (show j < m.length by omega)]) (fun j hj => by omega) (by simpa using hx) h
  · simpa using this
  · have hjl : j < l.toArray.size := (Array.getElem?_eq_some_iff.1 hoj).1
    have h1 := List.all_eq_true.1 hc i (List.mem_range.2 (by omega))
    have hi' : m.getD i false = true := hi
    rw [hi'] at h1
    simp only [Bool.not_true, Bool.false_or] at h1
    have h2 := List.all_eq_true.1 h1 j (List.mem_range.2 hjl)
    have hj' : m.getD j false = true := hj
    rw [hj', decide_eq_true hij, hoj] at h2
    simp only [Bool.not_true, Bool.false_or] at h2
    obtain ⟨e, he, hb⟩ := Array.any_eq_true'.1 h2
    simp only [Bool.and_eq_true, beq_iff_eq] at hb
    exact ⟨e, he, hb.1, hb.2⟩
/-! ### the walk, step by step -/
theorem nil_step {Q : Act → Nat → Prop} {m : List Bool} {a : Act} {s : Nat} (h : Q a s) : wpT P ops D Q m [] a s := by cases m <;> exact h
theorem pure_step {Q : Act → Nat → Prop} {m : List Bool} {o : Oper} {r : List Oper} {a : Act} {s : Nat}
    (h : ∀ K : Act → Prop, (∀ a, wpT P ops D Q m r a s → K a) → if Region.wanted o (yielded ops a.tmps) then (∃ v, (∀ n : Un D, pureUpon n.W v ((execOp a.eval o).run P n.W)) ∧ K (a.put o.dst v)) else K (a.put o.dst undef)) : wpT P ops D Q (false :: m) (o :: r) a s := by
  have h' := h _ fun _ h => h
  by_cases hw : Region.wanted o (yielded ops a.tmps) = true
  · simp only [hw, if_true] at h'
    obtain ⟨v, h1, h2⟩ := h'
    exact ⟨v, .inl ⟨hw, fun w ⟨n, e⟩ => by subst e; exact h1 n⟩, h2⟩
  · simp only [hw, Bool.false_eq_true, if_false] at h'
    exact ⟨undef, .inr ⟨by simpa using hw, rfl⟩, h'⟩
theorem call_step {Q : Act → Nat → Prop} {m : List Bool} {o : Oper} {r : List Oper} {a : Act} {s : Nat} {v : Value} (hw : Region.wanted o (yielded ops a.tmps) = true) (h1 : ∀ w, D s w → callUpon P (D (s + 1)) w v ((execOp a.eval o).run P w))
    (h : ∀ K : Act → Prop, (∀ a, wpT P ops D Q m r a (s + 1) → K a) → K (a.put o.dst v)) : wpT P ops D Q (true :: m) (o :: r) a s := ⟨v, ⟨hw, h1⟩, h _ fun _ h => h⟩
/-- three stages: ahead of two calls, between them, behind them -/
def D3 (W0 : World) (S1 S2 : World → Prop) : Nat → World → Prop
  | 0 => fun w => w = W0
  | 1 => S1
  | _ => S2
theorem D3.all {W0 : World} {S1 S2 : World → Prop} {p : World → Prop} (h0 : p W0) (h1 : ∀ w, S1 w → p w) (h2 : ∀ w, S2 w → p w) (n : Un (D3 W0 S1 S2)) : p n.W := by
  obtain ⟨s, w, h⟩ := n
  match s, h with
  | 0, h => cases h; exact h0
  | 1, h => exact h1 w h
  | s + 2, h => exact h2 w h
/-- two stages: ahead of a call, behind it -/
def D2 (W0 : World) (S1 : World → Prop) : Nat → World → Prop
  | 0 => fun w => w = W0
  | _ => S1
theorem D2.all {W0 : World} {S1 : World → Prop} {p : World → Prop} (h0 : p W0) (h1 : ∀ w, S1 w → p w) (n : Un (D2 W0 S1)) : p n.W := by
  obtain ⟨s, w, h⟩ := n
  match s, h with
  | 0, h => cases h; exact h0
  | s + 1, h => exact h1 w h
/-- two calls, one behind the other, of what each leaves: their stages -/
theorem pair {W0 : World} {f g : FuncId} {x y : Array Value} {v u : Value} {S1 S2 : World → Prop} (c1 : Calls P f x W0 fun e w' => e = .returned v ∧ S1 w') (c2 : ∀ w, S1 w → Calls P g y w fun e w' => e = .returned u ∧ S2 w') :
    ∃ D : Nat → World → Prop, D 0 W0 ∧ (∀ w, D 0 w → Calls P f x w fun e w' => e = .returned v ∧ D 1 w') ∧ (∀ w, D 1 w → Calls P g y w fun e w' => e = .returned u ∧ D 2 w') ∧ (∀ w, D 2 w → S2 w) ∧
      (∀ p : World → Prop, p W0 → (∀ w, S1 w → p w) → (∀ w, S2 w → p w) → ∀ q : Un D, p q.W) ∧ Nonempty (Un D) :=
  ⟨D3 W0 S1 S2, rfl, fun w h => by cases h; exact c1, c2, fun _ h => h, fun p h0 h1 h2 => D3.all h0 h1 h2, ⟨⟨0, W0, rfl⟩⟩⟩
/-- one call: its stages -/
theorem one {W0 : World} {f : FuncId} {x : Array Value} {v : Value} {S1 : World → Prop} (c1 : Calls P f x W0 fun e w' => e = .returned v ∧ S1 w') :
    ∃ D : Nat → World → Prop, D 0 W0 ∧ (∀ w, D 0 w → Calls P f x w fun e w' => e = .returned v ∧ D 1 w') ∧ (∀ w, D 1 w → S1 w) ∧ (∀ p : World → Prop, p W0 → (∀ w, S1 w → p w) → ∀ q : Un D, p q.W) ∧ Nonempty (Un D) :=
  ⟨D2 W0 S1, rfl, fun w h => by cases h; exact c1, fun _ h => h, fun p h0 h1 => D2.all h0 h1, ⟨⟨0, W0, rfl⟩⟩⟩
end Go.Proofs.YtgpfhgkphadgkaaDoor.stage
