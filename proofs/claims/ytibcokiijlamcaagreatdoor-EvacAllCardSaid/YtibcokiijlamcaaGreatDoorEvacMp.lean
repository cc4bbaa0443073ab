/- evac: a case's evacuation, its tables and its model, as they are made: what lies in memory. -/
import Derived.Test.YtibcokiijlamcaaGreatDoorEvacMd
import Derived.Test.YtibcokiijlamcaaGreatDoorOne
import Derived.Test.YtibcokiijlamcaaGreatDoorEvacInv
import Derived.Test.YtibcokiijlamcaaGreatDoorEvacAlive
import Derived.LoopTactic
namespace Go.Proofs.YtibcokiijlamcaaGreatDoor.evac
open Go.ChangeShapes Go.WideShapes Go.ChangeAt Go.RowKit Go.Shelf swar under trap meter group probe lens tail call table
attribute [local go_sem] Oper.semAt_some stage.pureUpon move.stepUpon
set_option linter.unusedSimpArgs false
set_option linter.unusedVariables false

/-- numbers, as they lie -/
def IntsAt (s : Option Addr) (la : Nat) (w : World) (zs : Nat → Int) : Prop := ∀ j, j < la → ∃ x, s = some x ∧ ∀ W, Below w.heap.size w W → W.cell? (x.add j) = some (.int .i64 (zs j))
theorem IntsAt.below {s : Option Addr} {la : Nat} {w w' : World} {zs : Nat → Int} (h : IntsAt s la w zs) (hb : Below w.heap.size w w') : IntsAt s la w' zs := fun j hj => by
  obtain ⟨x, h1, h3⟩ := h j hj
  exact ⟨x, h1, fun W hW => h3 W (under.below_step hb hW)⟩
/-- a step that writes blocks of the tables alone -/
abbrev Tp (Y : Lay) (W W' : World) : Prop := Past (Y.rall ++ Y.tall) W W'
theorem out_tp {Y : Lay} {x : Nat} (h : Out Y x) : x ∉ Y.rall ++ Y.tall := fun e => by
  rcases List.mem_append.1 e with e | e
  · exact h.r e
  · exact h.t e
/-- which blocks are whose -/
structure Apt (w : World) (Y : Lay) (X E GE A : Nat) : Prop where
  oX : Out Y X
  oE : Out Y E
  oGE : Out Y GE
  oA : Out Y A
  hX : w.heap.size ≤ X
  hE : w.heap.size ≤ E
  hGE : w.heap.size ≤ GE
  hA : w.heap.size ≤ A
  n1 : X ≠ E
  n2 : A ≠ E
  n3 : GE ≠ E
  n4 : A ≠ GE
/-- the tables are made; entries are put into them -/
structure Mp (a : String → Addr) (w : World) (X : Nat) (c : Cas) (d E GE cE A : Nat) (Y : Lay) (t u : Nat → Tb) (k : Nat → Nat) (K : Nat) (W : World) : Prop where
  m : Many a w Y t u k W
  x : CBox X c W
  em : EmAt E GE cE Y d 0 W
  al : ∀ j, j < Y.N → W.cell? ⟨A, j, none⟩ = some (.pointer (some ⟨Y.T j, 0, none⟩))
  lA : A < W.heap.size
  hk : ∀ i, i < Y.N → k i ≤ K
section
variable {a : String → Addr} {w : World} {X : Nat} {c : Cas} {n0 n1 d E GE cE A r : Nat} {Y : Lay} {va vt : Value} {t u : Nat → Tb} {k : Nat → Nat} {K : Nat} {W W' : World}
theorem Mp.read (h : Mp a w X c d E GE cE A Y t u k K W) (hb : Below W.heap.size W W') : Mp a w X c d E GE cE A Y t u k K W' :=
  ⟨h.m.read hb, h.x.keep hb, h.em.keep hb, fun j hj => (World.cell?_of_block (w := W) (hb.block A h.lA)).trans (h.al j hj), Nat.lt_of_lt_of_le h.lA hb.size, h.hk⟩
/-- behind a step of the tables -/
theorem Mp.to (h : Mp a w X c d E GE cE A Y t u k K W) (ap : Apt w Y X E GE A) {t' u' : Nat → Tb} {k' : Nat → Nat} {K' : Nat} (m' : Many a w Y t' u' k' W') {l : List Nat} (hp : Past l W W') (hl : ∀ b ∈ l, b ∈ Y.rall ∨ b ∈ Y.tall) (hk' : ∀ i, i < Y.N → k' i ≤ K') : Mp a w X c d E GE cE A Y t' u' k' K' W' := by
  have no : ∀ x, Out Y x → x ∉ l := fun x hx e => by
    rcases hl x e with e | e
    · exact hx.r e
    · exact hx.t e
  exact ⟨m', h.x.past hp (no X ap.oX), h.em.past hp (no E ap.oE) (no GE ap.oGE), fun j hj => (World.cell?_of_block (w := W) (hp.block A h.lA (no A ap.oA))).trans (h.al j hj), Nat.lt_of_lt_of_le h.lA hp.size, hk'⟩
theorem Mp.put (h : Mp a w X c d E GE cE A Y t u k K W) (ap : Apt w Y X E GE A) {i : Nat} (hi : i < Y.N) (key hs v : Nat) (hk : key < 18446744073709551616) (hh : hs < 18446744073709551616) (hv : v < 18446744073709551616) :
    Calls Tryz.prog 31 #[.pointer (some ⟨Y.T i, 0, Option.none⟩), .agg #[.pointer Option.none], group.entV key v hs] W fun e w' => e = .returned (.tuple #[.bool (putB' (t i) key hs), errAt a (putE' (t i) key hs)]) ∧ Mp a w X c d E GE cE A Y (up t i ((t i).puts key hs v)) u k K w' ∧ Tp Y W w' :=
  (h.m.put hi key hs v hk hh hv).mono fun e w' ⟨he, hm, hp⟩ => ⟨he, h.to ap hm hp (fun b hb => .inr (Lay.tin hi hb)) h.hk, hp.mono fun b hb => List.mem_append_right _ (Lay.tin hi hb)⟩
theorem up_le {N K i x : Nat} {k : Nat → Nat} (h : ∀ i, i < N → k i ≤ K) (hx : x ≤ 64) (hi : i < N) : ∀ j, j < N → up k i (k i + x) j ≤ K + 64 := fun j hj => by
  have := h j hj
  have := h i hi
  unfold up; split <;> omega
theorem Mp.rput (h : Mp a w X c d E GE cE A Y t u k K W) (ap : Apt w Y X E GE A) {i : Nat} (hi : i < Y.N) (key hs v : Nat) (hk : key < 18446744073709551616) (hh : hs < 18446744073709551616) (hv : v < 18446744073709551616) (hK : K ≤ 1000000) :
    Calls Tryz.prog 35 #[.pointer (some ⟨(Y.F i).R, 0, Option.none⟩), group.entV key v hs] W fun e w' => e = .returned (.tuple #[.bool (putB' (u i) key hs), .int .i64 (putE' (u i) key hs : Nat)]) ∧ ∃ k', Mp a w X c d E GE cE A Y t (up u i ((u i).puts key hs v)) k' (K + 64) w' ∧ Tp Y W w' :=
  (h.m.rput hi key hs v hk hh hv (by have := h.hk i hi; omega)).mono fun e w' ⟨he, hm, hp⟩ => ⟨he, _, h.to ap hm hp (fun b hb => .inl (Lay.rin hi hb)) (up_le h.hk (by have := looks_le (u i) key hs; have := okN_le (h.m.uok i hi).n; omega) hi), hp.mono fun b hb => List.mem_append_left _ (Lay.rin hi hb)⟩
theorem Mp.rfind (h : Mp a w X c d E GE cE A Y t u k K W) (ap : Apt w Y X E GE A) {i : Nat} (hi : i < Y.N) (key hs : Nat) (hh : hs < 18446744073709551616) (hK : K ≤ 1000000) :
    Calls Tryz.prog 36 #[.pointer (some ⟨(Y.F i).R, 0, Option.none⟩), .int .u64 key, .int .u64 hs] W fun e w' => e = .returned (.tuple #[group.entV (entOf (u i) key hs).key (entOf (u i) key hs).val (entOf (u i) key hs).hash, .bool (isThere (u i) key hs)]) ∧ ∃ k', Mp a w X c d E GE cE A Y t u k' (K + 64) w' ∧ Tp Y W w' :=
  (h.m.rfind hi key hs hh (by have := h.hk i hi; omega)).mono fun e w' ⟨he, hm, hp⟩ => ⟨he, _, h.to ap hm hp (fun b hb => .inl (Lay.rin hi hb)) (up_le h.hk (by have := looks_le (u i) key hs; have := okN_le (h.m.uok i hi).n; omega) hi), hp.mono fun b hb => List.mem_append_left _ (Lay.rin hi hb)⟩
theorem Mp.kc (h : Mp a w X c d E GE cE A Y t u k K W) {i : Nat} (hi : i < Y.N) : W.cell? ⟨(Y.F i).R, 1, none⟩ = some (.int .i64 (k i : Nat)) ∧ W.frozen? ⟨(Y.F i).R, 1, none⟩ = false :=
  ⟨(h.m.wa i hi).cell1, frozen_of_row _ _ 1 _ _ (h.m.wa i hi).row⟩
theorem Mp.setK (h : Mp a w X c d E GE cE A Y t u k K W) (ap : Apt w Y X E GE A) {i : Nat} (hi : i < Y.N) : Mp a w X c d E GE cE A Y t u (up k i 0) K (W.setCell ⟨(Y.F i).R, 1, none⟩ (.int .i64 0)) ∧ Tp Y W (W.setCell ⟨(Y.F i).R, 1, none⟩ (.int .i64 0)) := by
  obtain ⟨h1, h2⟩ := h.m.setK hi 0
  exact ⟨h.to ap h1 h2 (fun b hb => .inl (Lay.rin hi hb)) (fun j hj => by
    unfold up; split
    · omega
    · exact h.hk j hj), h2.mono fun b hb => List.mem_append_left _ (Lay.rin hi hb)⟩
theorem Md.mid {W2 W4 : World} {o1 : Obj} (h : Md a w X c n0 n1 d E r Y va vt W) (hb : Below W.heap.size W W2) (hg1 : (W2.alloc o1).grownBy W4 va.ownBlock) :
    W4.ownsRow w.heap.size 45 1 vt r ((List.range r).map fun i => .pointer (some ⟨(Y.F (i + 1)).R, 0, none⟩)) ∧ W4.heap[E]? = some (.cells #[.pointer (some ⟨(Y.F 0).R, 0, none⟩), vt, .int .i64 (d : Nat), .int .i64 0] 48 (0, 0)) ∧ w.heap.size ≤ W4.heap.size := by
  have b3 := new_block W2 o1
  have p4 := past_grown hg1
  have mt : ∀ {o : Option Nat} {b : Nat}, b ∈ o.toList → o = some b := fun {o b} hb => by cases o with
    | none => cases hb
    | some x => simp at hb; rw [hb]
  have z := p4.size
  have z3 := b3.size
  have z2 := hb.size
  have z0 := h.m.bel.size
  have lE := h.ltE
  refine ⟨row_past2 (row_below (row_below h.tg hb) b3) p4 fun g hg e => (h.oA g (mt e)).2.2.2 hg, ?_, by omega⟩
  rw [p4.block E (by omega) (fun e => (h.oA E (mt e)).2.1 rfl), b3.block E (by omega), hb.block E lE]
  exact h.e
theorem Md.mid2 {W4 W6 : World} {o2 : Obj} (h : Md a w X c n0 n1 d E r Y va vt W) (e4 : W4.heap[E]? = some (.cells #[.pointer (some ⟨(Y.F 0).R, 0, none⟩), vt, .int .i64 (d : Nat), .int .i64 0] 48 (0, 0))) (hg2 : (W4.alloc o2).grownBy W6 vt.ownBlock) :
    W6.heap[E]? = some (.cells #[.pointer (some ⟨(Y.F 0).R, 0, none⟩), vt, .int .i64 (d : Nat), .int .i64 0] 48 (0, 0)) := by
  have b5 := new_block W4 o2
  have p6 := past_grown hg2
  have mt : ∀ {o : Option Nat} {b : Nat}, b ∈ o.toList → o = some b := fun {o b} hb => by cases o with
    | none => cases hb
    | some x => simp at hb; rw [hb]
  have lE : E < W4.heap.size := (Array.getElem?_eq_some_iff.1 e4).1
  have z5 := b5.size
  rw [p6.block E (by omega) (fun e => (h.oT E (mt e)).2.1 rfl), b5.block E lE]
  exact e4
theorem Md.start {W0 w2 w3 : World} {T B : Nat} {f : Rf} (hw : Bq a w) (hx : CBox w.heap.size c W0) (hb0 : Below w.heap.size w W0) (hz0 : W0.heap.size = w.heap.size + 1) (ho : okN n0) (hb2 : Below W0.heap.size W0 w2) (hT : TAt T B (Tb.new n0) w2) (h1 : W0.heap.size ≤ T) (h2 : W0.heap.size ≤ B) (hb3 : Below w2.heap.size w2 w3) (hf : WAt f (Tb.new n0) 0 w3) (hnew : ∀ b, b ∈ f.d n0 ∨ b = f.G → w2.heap.size ≤ b) :
    Md a w w.heap.size c n0 n1 d w3.heap.size 0 (Lay.no.add T B f n0) (.slice (some ⟨w3.heap.size + 1, 0, none⟩) 1 1) (.slice none 0 0) ((w3.alloc (.cells #[.pointer (some ⟨f.R, 0, none⟩), .slice none 0 0, .int .i64 (d : Nat), .int .i64 0] 48)).alloc (.cells #[.pointer (some ⟨T, 0, none⟩)] 52)) := by
  have m3 := (Many.none (news .no) (news .no) (fun _ => 0) hb0 hw).add ho hb2 hT h1 h2 hb3 hf hnew
  rw [news_add Lay.no T B f n0, k0_add] at m3
  have b4 := new_block w3 (.cells #[.pointer (some ⟨f.R, 0, none⟩), .slice none 0 0, .int .i64 (d : Nat), .int .i64 0] 48)
  have z4 : (w3.alloc (.cells #[.pointer (some ⟨f.R, 0, none⟩), .slice none 0 0, .int .i64 (d : Nat), .int .i64 0] 48)).heap.size = w3.heap.size + 1 := World.size_alloc _ _
  have b5 := new_block (w3.alloc (.cells #[.pointer (some ⟨f.R, 0, none⟩), .slice none 0 0, .int .i64 (d : Nat), .int .i64 0] 48)) (.cells #[.pointer (some ⟨T, 0, none⟩)] 52)
  have b45 := under.below_step b4 b5
  have z2 := hb2.size
  have z3 := hb3.size
  have hN : (Lay.no.add T B f n0).N = 1 := rfl
  have h0 : (Lay.no.add T B f n0).bs 0 = T :: B :: f.G :: f.d n0 := Lay.add_bs _ _ _ _ _
  have hge : ∀ b ∈ T :: B :: f.G :: f.d n0, W0.heap.size ≤ b := fun b hb => by
    rcases List.mem_cons.1 hb with rfl | hb
    · exact h1
    · rcases List.mem_cons.1 hb with rfl | hb
      · exact h2
      · rcases List.mem_cons.1 hb with rfl | hb
        · exact Nat.le_trans z2 (hnew _ (.inr rfl))
        · exact Nat.le_trans z2 (hnew _ (.inl hb))
  have far : ∀ x, w3.heap.size ≤ x → Out (Lay.no.add T B f n0) x := fun x hx i hi e => by have := m3.lts hi e; omega
  refine ⟨rfl, rfl, fun j hj1 hj2 => by omega, m3.read b45, ((hx.keep hb2).keep hb3).keep b45, (b5.block _ (by omega)).trans (World.alloc_heap_new w3 _), ?_, ⟨rfl, .inl ⟨rfl, rfl⟩⟩, fun i hi e => ?_, far _ (Nat.le_refl _), Nat.le_refl _, by omega, by omega, fun g hg => ?_, fun g hg => by cases hg⟩
  · have := row_one (w3.alloc (.cells #[.pointer (some ⟨f.R, 0, none⟩), .slice none 0 0, .int .i64 (d : Nat), .int .i64 0] 48)) w.heap.size 52 (.pointer (some ⟨T, 0, none⟩)) (by omega)
    rw [z4] at this
    exact this
  · obtain rfl : i = 0 := by omega
    rw [h0] at e
    have := hge _ e
    omega
  · obtain rfl : w3.heap.size + 1 = g := by injection hg
    exact ⟨far _ (by omega), by omega, by omega, fun e => by cases e⟩
theorem Md.mp (h : Md a w X c n0 n1 d E (r + 1) Y va vt W) : ∃ A cA GE cE, va = .slice (some ⟨A, 0, none⟩) (r + 1 + 1) cA ∧ r + 1 + 1 ≤ cA ∧ vt = .slice (some ⟨GE, 0, none⟩) (r + 1) cE ∧ Mp a w X c d E GE cE A Y (news Y) (news Y) (fun _ => 0) 0 W ∧ Apt w Y X E GE A := by
  obtain ⟨hl, h2 | ⟨A, cA, cur, h1, h3, h4, h5, h6⟩⟩ := h.al
  · exact absurd h2.2 (by simp)
  obtain ⟨hl', h2' | ⟨GE, cE, cur', h1', h3', h4', h5', h6'⟩⟩ := h.tg
  · exact absurd h2'.2 (by simp)
  have cA' := fun j u hj => h.al.cells (g := A) (by rw [h1]; rfl) j u hj
  have cG' := fun j u hj => h.tg.cells (g := GE) (by rw [h1']; rfl) j u hj
  have oA := h.oA A (by rw [h1]; rfl)
  have hadd : ∀ B j, (⟨B, 0, none⟩ : Addr).add j = ⟨B, j, none⟩ := fun B j => by unfold Addr.add; split <;> simp_all
  have oT := h.oT GE (by rw [h1']; rfl)
  refine ⟨A, cA, GE, cE, h1, h5, h1', ⟨h.m, h.x, ⟨?_, fun j hj1 hj2 => ?_, (Array.getElem?_eq_some_iff.1 h4').1, fun e => oT.2.1 e.symm⟩, fun j hj => ?_, (Array.getElem?_eq_some_iff.1 h4).1, fun i hi => Nat.le_refl _⟩, ⟨h.oX, h.oE, oT.1, oA.1, h.hX, h.hE, h3', h3, h.ne, oA.2.1, oT.2.1, fun e => oA.2.2.2 (by rw [h1', e]; rfl)⟩⟩
  · rw [h.e, h1', h.N]; rfl
  · have hj3 : j - 1 < r + 1 := by have := h.N; omega
    have := cG' (j - 1) (.pointer (some ⟨(Y.F j).R, 0, none⟩)) (by rw [List.getElem?_map, List.getElem?_range hj3]; show some (Value.pointer (some ⟨(Y.F (j - 1 + 1)).R, 0, none⟩)) = _; rw [Nat.sub_add_cancel hj1])
    rw [hadd] at this; exact this
  · have hj3 : j < r + 1 + 1 := by have := h.N; omega
    have := cA' j (.pointer (some ⟨Y.T j, 0, none⟩)) (by rw [List.getElem?_map, List.getElem?_range hj3]; rfl)
    rw [hadd] at this; exact this
end
theorem CBox.all {X : Nat} {n0 n1 d : Int} {two : Bool} {sh : Option Addr} {lh ch : Nat} {sk : Option Addr} {lk ck : Nat} {sm : Option Addr} {lm cm : Nat} {W : World} (h : CBox X ⟨n0, n1, d, two, sh, lh, ch, sk, lk, ck, sm, lm, cm⟩ W) :
    W.cell? ⟨X, 0, none⟩ = some (.int .i64 n0) ∧ W.cell? ⟨X, 1, none⟩ = some (.int .i64 n1) ∧ W.cell? ⟨X, 2, none⟩ = some (.int .i64 d) ∧ W.cell? ⟨X, 3, none⟩ = some (.bool two) ∧ W.cell? ⟨X, 4, none⟩ = some (.slice sh lh ch) ∧ W.cell? ⟨X, 5, none⟩ = some (.slice sk lk ck) ∧ W.cell? ⟨X, 6, none⟩ = some (.slice sm lm cm) :=
  ⟨h.c0, h.c1, h.c2, h.c3, h.c4, h.c5, h.c6⟩
theorem infoRef : (Tryz.prog.info? 45).map (fun i => (i.zero, i.size, i.bytes)) = some (some (.pointer none), 1, 8) := by kernel_rfl
theorem new_yes (Y : Lay) (hN : Y.N = 2 ∨ Y.N = 3) (d A ca : Nat) (hd : d ≤ 15) (t : Tb) (w : World) (hT : TAt (Y.T 0) (Y.B 0) t w) (ht : t.n = Y.n 0) (hA : ∀ j, j < Y.N → w.cell? ⟨A, j, none⟩ = some (.pointer (some ⟨Y.T j, 0, none⟩))) :
    Calls Tryz.prog 27 #[.pointer (some ⟨Y.T 0, 0, none⟩), .int .i64 (d : Nat), .slice (some ⟨A, 1, none⟩) (Y.N - 1) ca] w fun e w' => ∃ V, e = .returned (.tuple #[.pointer (some ⟨V, 0, none⟩), .nilIface]) ∧ EvAt V Y d 0 w' ∧ w.heap.size ≤ V ∧ Below w.heap.size w w' := by
  have a1 := hA 1 (by omega)
  rcases hN with hN | hN
  · rw [hN]
    refine (new_one (Y.T 0) (Y.B 0) t (d : Nat) A 1 ⟨Y.T 1, 0, none⟩ ca w hT a1).mono fun e w' ⟨V, he, hr, h1, h2⟩ => ⟨V, he, ⟨?_⟩, h1, h2⟩
    rw [ht] at hr
    have e1 : dq Y.N d = 0 := by unfold dq; rw [if_neg (by omega)]
    rw [hr, e1, show Y.N - 1 = 1 by omega]; rfl
  · rw [hN]
    have a2 := hA 2 (by omega)
    refine (new_two (Y.T 0) (Y.B 0) t d hd A 1 ⟨Y.T 1, 0, none⟩ ⟨Y.T 2, 0, none⟩ ca w hT a1 a2).mono fun e w' ⟨V, he, hr, h1, h2⟩ => ⟨V, he, ⟨?_⟩, h1, h2⟩
    rw [ht] at hr
    have e1 : dq Y.N d = d := by unfold dq; rw [if_pos hN]
    rw [hr, e1, show Y.N - 1 = 2 by omega]; rfl
/-- a case is made: its evacuation, its tables, its model -/
structure Made (a : String → Addr) (w : World) (Y : Lay) (V A E GE cE d n0 n1 : Nat) (t : Nat → Tb) (W : World) : Prop where
  N : Y.N = 2 ∨ Y.N = 3
  n0 : Y.n 0 = n0
  n1 : ∀ j, 1 ≤ j → j < Y.N → Y.n j = n1
  m : ∃ k, Many a w Y t t k W ∧ ∀ i, i < Y.N → k i = 0
  ev : EvAt V Y d 0 W
  em : EmAt E GE cE Y d 0 W
  al : ∀ j, j < Y.N → W.cell? ⟨A, j, none⟩ = some (.pointer (some ⟨Y.T j, 0, none⟩))
  lA : A < W.heap.size
  oV : Out Y V
  oE : Out Y E
  oGE : Out Y GE
  oA : Out Y A
  hV : w.heap.size ≤ V
  hE : w.heap.size ≤ E
  hGE : w.heap.size ≤ GE
  hA : w.heap.size ≤ A
  nVE : V ≠ E
  nVG : V ≠ GE
  nVA : V ≠ A
  nAE : A ≠ E
  nAG : A ≠ GE
end Go.Proofs.YtibcokiijlamcaaGreatDoor.evac
