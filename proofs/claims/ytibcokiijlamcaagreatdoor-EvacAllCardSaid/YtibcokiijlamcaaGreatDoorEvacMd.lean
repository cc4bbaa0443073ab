/- evac: what lies in memory while a case's tables are made. -/
import Derived.Test.YtibcokiijlamcaaGreatDoorEvacNew
import Derived.Test.YtibcokiijlamcaaGreatDoorEvacRef
import Derived.Test.YtibcokiijlamcaaGreatDoorEvacCase
import Derived.Maps.OwnIn
namespace Go.Proofs.YtibcokiijlamcaaGreatDoor.evac
open Go.ChangeShapes Go.WideShapes Go.ChangeAt Go.RowKit Go.Shelf swar under trap meter group probe lens tail call table
set_option linter.unusedSimpArgs false
set_option linter.unusedVariables false

theorem Out.add {Y : Lay} {T B n x : Nat} {f : Rf} (h : Out Y x) (h2 : x ∉ T :: B :: f.G :: f.d n) : Out (Y.add T B f n) x := fun i hi => by
  rcases Nat.lt_or_ge i Y.N with hl | hl
  · rw [Lay.add_old _ _ _ _ _ hl]; exact h i hl
  · obtain rfl : i = Y.N := by have : (Y.add T B f n).N = Y.N + 1 := rfl; omega
    rw [Lay.add_bs]; exact h2
/-- a new table of so many groups at each place; none was looked at -/
abbrev news (Y : Lay) : Nat → Tb := fun i => Tb.new (Y.n i)
theorem news_add (Y : Lay) (T B : Nat) (f : Rf) (n : Nat) : up (news Y) Y.N (Tb.new n) = news (Y.add T B f n) := by
  funext i; unfold news Lay.add up; simp only; split <;> rfl
theorem k0_add (N : Nat) : up (fun _ => 0) N 0 = (fun _ => 0 : Nat → Nat) := by funext i; unfold up; split <;> rfl
/-- so many targets are made -/
structure Md (a : String → Addr) (w : World) (X : Nat) (c : Cas) (n0 n1 d E r : Nat) (Y : Lay) (va vt : Value) (W : World) : Prop where
  N : Y.N = r + 1
  e0 : Y.n 0 = n0
  e1 : ∀ j, 1 ≤ j → j < Y.N → Y.n j = n1
  m : Many a w Y (news Y) (news Y) (fun _ => 0) W
  x : CBox X c W
  e : W.heap[E]? = some (.cells #[.pointer (some ⟨(Y.F 0).R, 0, none⟩), vt, .int .i64 (d : Nat), .int .i64 0] 48 (0, 0))
  al : W.ownsRow w.heap.size 52 1 va (r + 1) ((List.range (r + 1)).map fun i => .pointer (some ⟨Y.T i, 0, none⟩))
  tg : W.ownsRow w.heap.size 45 1 vt r ((List.range r).map fun i => .pointer (some ⟨(Y.F (i + 1)).R, 0, none⟩))
  oX : Out Y X
  oE : Out Y E
  hX : w.heap.size ≤ X
  hE : w.heap.size ≤ E
  ne : X ≠ E
  oA : ∀ g, va.ownBlock = some g → Out Y g ∧ g ≠ E ∧ g ≠ X ∧ vt.ownBlock ≠ some g
  oT : ∀ g, vt.ownBlock = some g → Out Y g ∧ g ≠ E ∧ g ≠ X
section
variable {a : String → Addr} {w : World} {X : Nat} {c : Cas} {n0 n1 d E r : Nat} {Y : Lay} {va vt : Value} {W W' : World}
theorem Md.ltE (h : Md a w X c n0 n1 d E r Y va vt W) : E < W.heap.size := (Array.getElem?_eq_some_iff.1 h.e).1
theorem Md.read (h : Md a w X c n0 n1 d E r Y va vt W) (hb : Below W.heap.size W W') : Md a w X c n0 n1 d E r Y va vt W' :=
  ⟨h.N, h.e0, h.e1, h.m.read hb, h.x.keep hb, (hb.block E h.ltE).trans h.e, row_below h.al hb, row_below h.tg hb, h.oX, h.oE, h.hX, h.hE, h.ne, h.oA, h.oT⟩
/-- one more target -/
theorem Md.next {W1 W2 W4 W6 : World} {T B : Nat} {f : Rf} {g1 c1 g2 c2 : Nat} (h : Md a w X c n0 n1 d E r Y va vt W) (hn : okN n1)
    (hb1 : Below W.heap.size W W1) (hT : TAt T B (Tb.new n1) W1) (h1 : W.heap.size ≤ T) (h2 : W.heap.size ≤ B) (hb2 : Below W1.heap.size W1 W2) (hf : WAt f (Tb.new n1) 0 W2) (hnew : ∀ b, b ∈ f.d n1 ∨ b = f.G → W1.heap.size ≤ b)
    {o1 o2 : Obj} (hr1 : W4.ownsRow w.heap.size 52 1 (.slice (some ⟨g1, 0, none⟩) (r + 1 + 1) c1) (r + 1 + 1) ((List.range (r + 1)).map (fun i => .pointer (some ⟨Y.T i, 0, none⟩)) ++ [.pointer (some ⟨T, 0, none⟩)])) (hg1 : (W2.alloc o1).grownBy W4 va.ownBlock) (ha1 : va.ownBlock = some g1 ∨ g1 = W2.heap.size + 1)
    (hr2 : W6.ownsRow w.heap.size 45 1 (.slice (some ⟨g2, 0, none⟩) (r + 1) c2) (r + 1) ((List.range r).map (fun i => .pointer (some ⟨(Y.F (i + 1)).R, 0, none⟩)) ++ [.pointer (some ⟨f.R, 0, none⟩)])) (hg2 : (W4.alloc o2).grownBy W6 vt.ownBlock) (ha2 : vt.ownBlock = some g2 ∨ g2 = W4.heap.size + 1) :
    Md a w X c n0 n1 d E (r + 1) (Y.add T B f n1) (.slice (some ⟨g1, 0, none⟩) (r + 1 + 1) c1) (.slice (some ⟨g2, 0, none⟩) (r + 1) c2) (W6.setCell ⟨E, 1, none⟩ (.slice (some ⟨g2, 0, none⟩) (r + 1) c2)) := by
  have hb12 := under.below_step hb1 hb2
  have m2 := h.m.add hn hb1 hT h1 h2 hb2 hf hnew
  rw [news_add Y T B f n1, k0_add] at m2
  have z1 := hb1.size
  have z2 := hb2.size
  have zw := h.m.bel.size
  have sz3 : (W2.alloc o1).heap.size = W2.heap.size + 1 := World.size_alloc _ _
  have sz5 : (W4.alloc o2).heap.size = W4.heap.size + 1 := World.size_alloc _ _
  have p4 := past_grown hg1
  have p6 := past_grown hg2
  have z4 := p4.size
  have z6 := p6.size
  have hnewb : ∀ b ∈ T :: B :: f.G :: f.d n1, W.heap.size ≤ b := fun b hb => by
    rcases List.mem_cons.1 hb with rfl | hb
    · exact h1
    · rcases List.mem_cons.1 hb with rfl | hb
      · exact h2
      · rcases List.mem_cons.1 hb with rfl | hb
        · exact Nat.le_trans z1 (hnew _ (.inr rfl))
        · exact Nat.le_trans z1 (hnew _ (.inl hb))
  have old : ∀ x, x < W.heap.size → Out Y x → Out (Y.add T B f n1) x := fun x hx ho => Out.add ho fun e => by have := hnewb x e; omega
  have far : ∀ x, W2.heap.size ≤ x → Out (Y.add T B f n1) x := fun x hx i hi e => by have := m2.lts hi e; omega
  have lX := h.x.lt
  have lE := h.ltE
  have oX := old X lX h.oX
  have oE := old E lE h.oE
  have ga : ∀ g, va.ownBlock = some g → g < W.heap.size ∧ w.heap.size ≤ g := fun g hg => ⟨(row_lt h.al hg).2, (row_lt h.al hg).1⟩
  have gt : ∀ g, vt.ownBlock = some g → g < W.heap.size ∧ w.heap.size ≤ g := fun g hg => ⟨(row_lt h.tg hg).2, (row_lt h.tg hg).1⟩
  have mt : ∀ {o : Option Nat} {b : Nat}, b ∈ o.toList → o = some b := fun {o b} hb => by cases o with
    | none => cases hb
    | some x => simp at hb; rw [hb]
  have q1 : Out (Y.add T B f n1) g1 ∧ g1 ≠ E ∧ g1 ≠ X ∧ w.heap.size ≤ g1 ∧ ∀ g, vt.ownBlock = some g → g ≠ g1 := by
    rcases ha1 with hg | rfl
    · have := ga g1 hg
      obtain ⟨u1, u2, u3, u4⟩ := h.oA g1 hg
      exact ⟨old g1 this.1 u1, u2, u3, this.2, fun g e e' => u4 (by rw [e, e'])⟩
    · exact ⟨far _ (by omega), by omega, by omega, by omega, fun g e e' => by have := gt g e; omega⟩
  have q2 : Out (Y.add T B f n1) g2 ∧ g2 ≠ E ∧ g2 ≠ X ∧ w.heap.size ≤ g2 ∧ g2 ≠ g1 := by
    rcases ha2 with hg | rfl
    · have := gt g2 hg
      obtain ⟨u1, u2, u3⟩ := h.oT g2 hg
      exact ⟨old g2 this.1 u1, u2, u3, this.2, q1.2.2.2.2 g2 hg⟩
    · refine ⟨far _ (by omega), by omega, by omega, by omega, ?_⟩
      have := (row_lt hr1 (g := g1) rfl).2
      omega
  obtain ⟨q11, q12, q13, q14, q15⟩ := q1
  obtain ⟨q21, q22, q23, q24, q25⟩ := q2
  have b3 := new_block W2 o1
  have b5 := new_block W4 o2
  have m4 := (m2.read b3).past p4 (fun b hb => (ga b (mt hb)).2) (fun i hi b hb e => by
    have := h.oA b (mt e)
    exact old b (ga b (mt e)).1 this.1 i hi hb)
  have m6 := (m4.read b5).past p6 (fun b hb => (gt b (mt hb)).2) (fun i hi b hb e => by
    have := h.oT b (mt e)
    exact old b (gt b (mt e)).1 this.1 i hi hb)
  have p7 : Past [E] W6 (W6.setCell ⟨E, 1, none⟩ (.slice (some ⟨g2, 0, none⟩) (r + 1) c2)) := (Past.refl [E] W6).store (.inl (by simp)) _
  have m7 := m6.past p7 (fun b hb => by obtain rfl : b = E := by simpa using hb
                                        exact h.hE) (fun i hi b hb e => by
    obtain rfl : b = E := by simpa using e
    exact oE i hi hb)
  have x6 := (((h.x.keep hb12).keep b3).past p4 (fun e => (h.oA X (mt e)).2.2.1 rfl)).keep b5 |>.past p6 (fun e => (h.oT X (mt e)).2.2 rfl)
  have e6 : W6.heap[E]? = some (.cells #[.pointer (some ⟨(Y.F 0).R, 0, none⟩), vt, .int .i64 (d : Nat), .int .i64 0] 48 (0, 0)) := by
    rw [p6.block E (by omega) (fun e => (h.oT E (mt e)).2.1 rfl), b5.block E (by omega), p4.block E (by omega) (fun e => (h.oA E (mt e)).2.1 rfl), b3.block E (by omega), hb12.block E lE]
    exact h.e
  have hN0 : 0 ≠ Y.N := by have := h.N; omega
  refine ⟨by show Y.N + 1 = _; rw [h.N], ?_, fun j hj1 hj2 => ?_, m7, x6.past p7 (by simpa using h.ne), ?_, ?_, ?_, oX, oE, h.hX, h.hE, h.ne, fun g hg => ?_, fun g hg => ?_⟩
  · show up Y.n Y.N n1 0 = n0
    rw [up_ne _ _ hN0]; exact h.e0
  · show up Y.n Y.N n1 j = n1
    by_cases e : j = Y.N
    · rw [e, up_same]
    · rw [up_ne _ _ e]
      exact h.e1 j hj1 (by have : (Y.add T B f n1).N = Y.N + 1 := rfl; omega)
  · have := heap_setCell_same W6 E 1 _ _ (.slice (some ⟨g2, 0, none⟩) (r + 1) c2) e6
    rw [this]
    show some (Obj.cells #[_, _, _, _] _ _) = some (Obj.cells #[.pointer (some ⟨(up Y.F Y.N f 0).R, 0, none⟩), _, _, _] _ _)
    rw [up_ne _ _ hN0]
  · have hl : (List.range (r + 1 + 1)).map (fun i => Value.pointer (some ⟨(Y.add T B f n1).T i, 0, none⟩)) = (List.range (r + 1)).map (fun i => Value.pointer (some ⟨Y.T i, 0, none⟩)) ++ [.pointer (some ⟨T, 0, none⟩)] := by
      rw [List.range_succ, List.map_append]
      congr 1
      · refine List.map_congr_left fun i hi => ?_
        show Value.pointer (some ⟨up Y.T Y.N T i, 0, none⟩) = _
        rw [up_ne _ _ (by have := List.mem_range.1 hi; have := h.N; omega)]
      · show [Value.pointer (some ⟨up Y.T Y.N T (r + 1), 0, none⟩)] = _
        rw [← h.N, up_same]
    rw [hl]
    refine row_past2 (row_past2 (row_below hr1 b5) p6 fun g hg e => ?_) p7 fun g hg e => ?_
    · obtain rfl : g1 = g := by injection hg
      exact q15 _ (mt e) rfl
    · obtain rfl : g1 = g := by injection hg
      exact q12 (by simpa using e)
  · have hl : (List.range (r + 1)).map (fun i => Value.pointer (some ⟨((Y.add T B f n1).F (i + 1)).R, 0, none⟩)) = (List.range r).map (fun i => Value.pointer (some ⟨(Y.F (i + 1)).R, 0, none⟩)) ++ [.pointer (some ⟨f.R, 0, none⟩)] := by
      rw [List.range_succ, List.map_append]
      congr 1
      · refine List.map_congr_left fun i hi => ?_
        show Value.pointer (some ⟨(up Y.F Y.N f (i + 1)).R, 0, none⟩) = _
        rw [up_ne _ _ (by have := List.mem_range.1 hi; have := h.N; omega)]
      · show [Value.pointer (some ⟨(up Y.F Y.N f (r + 1)).R, 0, none⟩)] = _
        rw [← h.N, up_same]
    rw [hl]
    refine row_past2 hr2 p7 fun g hg e => ?_
    obtain rfl : g2 = g := by injection hg
    exact q22 (by simpa using e)
  · obtain rfl : g1 = g := by injection hg
    exact ⟨q11, q12, q13, fun e => q25 (by injection e)⟩
  · obtain rfl : g2 = g := by injection hg
    exact ⟨q21, q22, q23⟩
end
end Go.Proofs.YtibcokiijlamcaaGreatDoor.evac
