/- GroupActs: the walk. -/
import Derived.Test.YtgpfhgkphadgkaaDoorGroupSame
import Derived.Test.YtgpfhgkphadgkaaDoorGroupFlat
import Derived.Test.YtgpfhgkphadgkaaDoorMove
import Derived.Test.YtgpfhgkphadgkaaDoorNum
import Derived.LoopTactic
import Derived.Deep.CutRange
import Derived.Deep.CutBlock
namespace Go.Proofs.YtgpfhgkphadgkaaDoor.group
open Go.ChangeShapes Go.WideShapes Go.ChangeAt Go.RowKit swar trap under meter tail
set_option linter.unusedSimpArgs false
attribute [local go_sem] Oper.semAt_some stage.pureUpon move.stepUpon
set_option linter.unusedVariables false

/-- a meter behind so many visits -/
def mtk (k : Nat) : Mt := { Mt.zero with va := k, vl := k }
theorem mtk_zero : mtk 0 = .zero := rfl
theorem mtk_next {k : Nat} (h : k ≤ 80) : (mtk k).visits 1 = mtk (k + 1) := by
  have e : sm (k : Int) 1 = ((k + 1 : Nat) : Int) := by rw [sm_add (by omega) (by omega) (by omega)]; omega
  unfold mtk Mt.visits
  simp only [e]
/-- the group, the meter, the document's group, each in a block of its own that is new -/
structure Gs (w : World) (Bg Bm R : Nat) (g d : Gp) (m : Mt) (W : World) : Prop where
  st : St w Bg Bm g m W
  ra : RAt R d W
  rg : R ≠ Bg
  rm : R ≠ Bm
  hr : w.heap.size ≤ R
theorem Gs.read {w : World} {Bg Bm R : Nat} {g d : Gp} {m : Mt} {W W' : World} (h : Gs w Bg Bm R g d m W) (hb : Below W.heap.size W W') : Gs w Bg Bm R g d m W' := ⟨h.st.read hb, h.ra.below hb, h.rg, h.rm, h.hr⟩
theorem Gs.gstep {w : World} {Bg Bm R : Nat} {g g' d : Gp} {m : Mt} {W W' : World} (h : Gs w Bg Bm R g d m W) (hs : GStep Bg 0 g' W W') : Gs w Bg Bm R g' d m W' := ⟨h.st.gstep hs, h.ra.past hs.past (by simpa using h.rg), h.rg, h.rm, h.hr⟩
theorem Gs.mstep {w : World} {Bg Bm R : Nat} {g d : Gp} {m m' : Mt} {W W' : World} (h : Gs w Bg Bm R g d m W) (hs : MStep Bm 0 m' W W') : Gs w Bg Bm R g d m' W' := ⟨h.st.mstep hs, h.ra.past hs.past (by simpa using h.rm), h.rg, h.rm, h.hr⟩
theorem Gs.rstep {w : World} {Bg Bm R : Nat} {g d d' : Gp} {m : Mt} {W W' : World} (h : Gs w Bg Bm R g d m W) (hs : RStep R d' W W') : Gs w Bg Bm R g d' m W' :=
  ⟨⟨h.st.below.trans (hs.past.below h.st.below.size (by simpa using h.hr)), h.st.ga.past hs.past (by simpa using h.rg.symm), h.st.ma.past hs.past (by simpa using h.rm.symm), h.st.ne, h.st.hg, h.st.hm⟩, hs.at', h.rg, h.rm, h.hr⟩
theorem Gs.fresh {w : World} {Bg Bm R : Nat} {g d : Gp} {m : Mt} {W W' : World} (h : Gs w Bg Bm R g d m W) (hb : Below W.heap.size W W') (hr : RAt W.heap.size .new W') : Gs w Bg Bm W.heap.size g .new m W' :=
  ⟨h.st.read hb, hr, by have := h.st.ga.lt; omega, by have := h.st.ma.lt; omega, h.st.below.size⟩
/-- in a round: the act's box and the view's -/
structure Rn (w : World) (Bg Bm R Sa Sv : Nat) (c : Act) (g d : Gp) (m : Mt) (W : World) : Prop where
  gs : Gs w Bg Bm R g d m W
  ck : W.cell? ⟨Sa, 0, none⟩ = some (.int .i64 c.kind)
  ci : W.cell? ⟨Sa, 1, none⟩ = some (.int .i64 c.i)
  cky : W.cell? ⟨Sa, 2, none⟩ = some (.int .u64 (c.key : Nat))
  cvl : W.cell? ⟨Sa, 3, none⟩ = some (.int .u64 (c.val : Nat))
  chs : W.cell? ⟨Sa, 4, none⟩ = some (.int .u64 (c.hash : Nat))
  cv : W.cell? ⟨Sv, 0, none⟩ = some (.pointer (some ⟨Bg, 0, none⟩))
  na : Sa ≠ Bg ∧ Sa ≠ R
  nv : Sv ≠ Bg ∧ Sv ≠ R
theorem Rn.read {w : World} {Bg Bm R Sa Sv : Nat} {c : Act} {g d : Gp} {m : Mt} {W W' : World} (h : Rn w Bg Bm R Sa Sv c g d m W) (hb : Below W.heap.size W W') : Rn w Bg Bm R Sa Sv c g d m W' :=
  have k : ∀ {p v}, W.cell? p = some v → W'.cell? p = some v := fun {p v} hc => (hb.cell (World.block_lt_of_cell? W p hc)).trans hc
  ⟨h.gs.read hb, k h.ck, k h.ci, k h.cky, k h.cvl, k h.chs, k h.cv, h.na, h.nv⟩
theorem Rn.gstep {w : World} {Bg Bm R Sa Sv : Nat} {c : Act} {g g' d : Gp} {m : Mt} {W W' : World} (h : Rn w Bg Bm R Sa Sv c g d m W) (hs : GStep Bg 0 g' W W') : Rn w Bg Bm R Sa Sv c g' d m W' :=
  have k : ∀ {i v}, W.cell? ⟨Sa, i, none⟩ = some v → W'.cell? ⟨Sa, i, none⟩ = some v := fun {i v} hc => hs.past.cell hc (by simpa using h.na.1)
  ⟨h.gs.gstep hs, k h.ck, k h.ci, k h.cky, k h.cvl, k h.chs, hs.past.cell h.cv (by simpa using h.nv.1), h.na, h.nv⟩
theorem Rn.rstep {w : World} {Bg Bm R Sa Sv : Nat} {c : Act} {g d d' : Gp} {m : Mt} {W W' : World} (h : Rn w Bg Bm R Sa Sv c g d m W) (hs : RStep R d' W W') : Rn w Bg Bm R Sa Sv c g d' m W' :=
  have k : ∀ {i v}, W.cell? ⟨Sa, i, none⟩ = some v → W'.cell? ⟨Sa, i, none⟩ = some v := fun {i v} hc => hs.past.cell hc (by simpa using h.na.2)
  ⟨h.gs.rstep hs, k h.ck, k h.ci, k h.cky, k h.cvl, k h.chs, hs.past.cell h.cv (by simpa using h.nv.2), h.na, h.nv⟩
theorem Rn.fresh {w : World} {Bg Bm R Sa Sv : Nat} {c : Act} {g d : Gp} {m : Mt} {W W' : World} (h : Rn w Bg Bm R Sa Sv c g d m W) (hb : Below W.heap.size W W') (hr : RAt W.heap.size .new W') : Rn w Bg Bm W.heap.size Sa Sv c g .new m W' :=
  have k : ∀ {p v}, W.cell? p = some v → W'.cell? p = some v := fun {p v} hc => (hb.cell (World.block_lt_of_cell? W p hc)).trans hc
  ⟨h.gs.fresh hb hr, k h.ck, k h.ci, k h.cky, k h.cvl, k h.chs, k h.cv, ⟨h.na.1, by have := World.block_lt_of_cell? W _ h.ck; simp at this; omega⟩, ⟨h.nv.1, by have := World.block_lt_of_cell? W _ h.cv; simp at this; omega⟩⟩
abbrev actBox (a : Act) : Obj := .cells #[.int .i64 a.kind, .int .i64 a.i, .int .u64 (a.key : Nat), .int .u64 (a.val : Nat), .int .u64 (a.hash : Nat)] 37
theorem Rn.start {w : World} {Bg Bm R : Nat} {a : Act} {g : Gp} {m m' : Mt} {W W2 W3 : World} (h : Gs w Bg Bm R g g m W) (hb : Below (W.alloc (actBox a)).heap.size (W.alloc (actBox a)) W2) (hs : MStep Bm 0 m' W2 W3) :
    Rn w Bg Bm R W.heap.size W3.heap.size a g g m' (W3.alloc (.cells #[.pointer (some ⟨Bg, 0, none⟩)] 39)) := by
  have h1 := h.read (new_block W (actBox a))
  have hz := hb.size
  rw [World.size_alloc] at hz
  have h2 := h1.read hb
  have h3 := h2.mstep hs
  have hg := h.st.ga.lt
  have hm := h.st.ma.lt
  have hr2 := h.ra.lt
  have hz3 := hs.past.size
  have hr := World.alloc_heap_new W (actBox a)
  have c : ∀ {i : Nat} {v : Value}, (W.alloc (actBox a)).cell? ⟨W.heap.size, i, none⟩ = some v → (W3.alloc (.cells #[.pointer (some ⟨Bg, 0, none⟩)] 39)).cell? ⟨W.heap.size, i, none⟩ = some v := fun {i v} hc => by
    have k2 := (hb.cell (World.block_lt_of_cell? _ _ hc)).trans hc
    have k3 := hs.past.cell k2 (by simp; omega)
    exact ((new_block W3 _).cell (World.block_lt_of_cell? _ _ k3)).trans k3
  refine ⟨h3.read (new_block W3 _), c ?_, c ?_, c ?_, c ?_, c ?_, (Boxed.new W3 _ _).cell, ⟨by omega, by omega⟩, ⟨by omega, by omega⟩⟩
  all_goals rw [cell_of_row _ _ _ _ _ _ hr]; rfl
/-- the worlds of a region: what is set in the group, the error's number, what is set in the document's group -/
def ActD (w : World) (Bg Bm R Sa Sv : Nat) (c : Act) (g gp : Gp) (m : Mt) : Nat → World → Prop
  | 0 => Rn w Bg Bm R Sa Sv c g g m
  | 1 => Rn w Bg Bm R Sa Sv c gp g m
  | 2 => Rn w Bg Bm R Sa Sv c gp g m
  | _ => Rn w Bg Bm R Sa Sv c gp gp m
theorem ActD.all {w : World} {Bg Bm R Sa Sv : Nat} {c : Act} {g gp : Gp} {m : Mt} {p : World → Prop} (h : ∀ g d W, Rn w Bg Bm R Sa Sv c g d m W → p W) (q : stage.Un (ActD w Bg Bm R Sa Sv c g gp m)) : p q.W := by
  obtain ⟨s, W, hs⟩ := q
  match s, hs with
  | 0, hs => exact h _ _ W hs
  | 1, hs => exact h _ _ W hs
  | 2, hs => exact h _ _ W hs
  | s + 3, hs => exact h _ _ W hs
theorem Gs.other {w : World} {Bg Bm R S : Nat} {g d : Gp} {m : Mt} {W W' : World} (h : Gs w Bg Bm R g d m W) (hp : Past [S] W W') (hS : w.heap.size ≤ S) (n1 : S ≠ Bg) (n2 : S ≠ Bm) (n3 : S ≠ R) : Gs w Bg Bm R g d m W' :=
  ⟨⟨h.st.below.trans (hp.below h.st.below.size (by simpa using hS)), h.st.ga.past hp (by simpa using n1.symm), h.st.ma.past hp (by simpa using n2.symm), h.st.ne, h.st.hg, h.st.hm⟩, h.ra.past hp (by simpa using n3.symm), h.rg, h.rm, h.hr⟩
theorem Rn.other {w : World} {Bg Bm R Sa Sv S : Nat} {c : Act} {g d : Gp} {m : Mt} {W W' : World} (h : Rn w Bg Bm R Sa Sv c g d m W) (hp : Past [S] W W') (hS : w.heap.size ≤ S) (n1 : S ≠ Bg) (n2 : S ≠ Bm) (n3 : S ≠ R) (n4 : S ≠ Sa) (n5 : S ≠ Sv) : Rn w Bg Bm R Sa Sv c g d m W' :=
  have k : ∀ {i v}, W.cell? ⟨Sa, i, none⟩ = some v → W'.cell? ⟨Sa, i, none⟩ = some v := fun {i v} hc => hp.cell hc (by simpa using n4.symm)
  ⟨h.gs.other hp hS n1 n2 n3, k h.ck, k h.ci, k h.cky, k h.cvl, k h.chs, hp.cell h.cv (by simpa using n5.symm), h.na, h.nv⟩
/-- and the boxes of the two entries that are held against each other -/
structure Rv (w : World) (Bg Bm R Sa Sv Se Sw : Nat) (c : Act) (g : Gp) (m : Mt) (k v h k' v' h' : Nat) (W : World) : Prop where
  rn : Rn w Bg Bm R Sa Sv c g g m W
  e0 : W.cell? ⟨Se, 0, none⟩ = some (.int .u64 (k : Nat))
  e1 : W.cell? ⟨Se, 1, none⟩ = some (.int .u64 (v : Nat))
  e2 : W.cell? ⟨Se, 2, none⟩ = some (.int .u64 (h : Nat))
  t0 : W.cell? ⟨Sw, 0, none⟩ = some (.int .u64 (k' : Nat))
  t1 : W.cell? ⟨Sw, 1, none⟩ = some (.int .u64 (v' : Nat))
  t2 : W.cell? ⟨Sw, 2, none⟩ = some (.int .u64 (h' : Nat))
  fz : ∀ i, W.frozen? ⟨Sw, i, none⟩ = false
  hw : w.heap.size ≤ Sw
  ne : Sw ≠ Se ∧ Sw ≠ Bg ∧ Sw ≠ Bm ∧ Sw ≠ R ∧ Sw ≠ Sa ∧ Sw ≠ Sv
theorem Rv.read {w : World} {Bg Bm R Sa Sv Se Sw : Nat} {c : Act} {g : Gp} {m : Mt} {k v h k' v' h' : Nat} {W W' : World} (x : Rv w Bg Bm R Sa Sv Se Sw c g m k v h k' v' h' W) (hb : Below W.heap.size W W') : Rv w Bg Bm R Sa Sv Se Sw c g m k v h k' v' h' W' :=
  have l : ∀ {p v}, W.cell? p = some v → W'.cell? p = some v := fun {p v} hc => (hb.cell (World.block_lt_of_cell? W p hc)).trans hc
  ⟨x.rn.read hb, l x.e0, l x.e1, l x.e2, l x.t0, l x.t1, l x.t2, fun i => (World.frozen?_of_block (w := W) (hb.block Sw (World.block_lt_of_cell? W _ x.t0))).trans (x.fz i), x.hw, x.ne⟩
abbrev entBox (k v h : Nat) : Obj := .cells #[.int .u64 (k : Nat), .int .u64 (v : Nat), .int .u64 (h : Nat)] 35
theorem Rv.start {w : World} {Bg Bm R Sa Sv : Nat} {c : Act} {g : Gp} {m : Mt} {W : World} (x : Rn w Bg Bm R Sa Sv c g g m W) (k v h : Nat) : Rv w Bg Bm R Sa Sv W.heap.size (W.heap.size + 1) c g m k v h 0 0 0 ((W.alloc (entBox k v h)).alloc (entBox 0 0 0)) := by
  have z := World.size_alloc W (entBox k v h)
  have r1 := World.alloc_heap_new W (entBox k v h)
  have r2 := World.alloc_heap_new (W.alloc (entBox k v h)) (entBox 0 0 0)
  rw [z] at r2
  have b2 := new_block (W.alloc (entBox k v h)) (entBox 0 0 0)
  have r3 := (b2.block W.heap.size (by rw [z]; omega)).trans r1
  have l0 := x.gs.st.ga.lt
  have l1 := x.gs.st.ma.lt
  have l2 := x.gs.ra.lt
  have l3 := World.block_lt_of_cell? W _ x.ck
  have l4 := World.block_lt_of_cell? W _ x.cv
  simp only at l3 l4
  refine ⟨(x.read (new_block W _)).read b2, ?_, ?_, ?_, ?_, ?_, ?_, fun i => frozen_of_row _ _ i _ _ r2, by have := x.gs.st.below.size; omega, by omega, by omega, by omega, by omega, by omega, by omega⟩
  · rw [cell_of_row _ _ _ _ _ _ r3]; rfl
  · rw [cell_of_row _ _ _ _ _ _ r3]; rfl
  · rw [cell_of_row _ _ _ _ _ _ r3]; rfl
  · rw [cell_of_row _ _ _ _ _ _ r2]; rfl
  · rw [cell_of_row _ _ _ _ _ _ r2]; rfl
  · rw [cell_of_row _ _ _ _ _ _ r2]; rfl
theorem Rv.set {w : World} {Bg Bm R Sa Sv Se Sw : Nat} {c : Act} {g : Gp} {m : Mt} {k v h k' v' h' : Nat} {W : World} (x : Rv w Bg Bm R Sa Sv Se Sw c g m k v h k' v' h' W) (a b d : Nat) : Rv w Bg Bm R Sa Sv Se Sw c g m k v h a b d (((W.setCell ⟨Sw, 0, none⟩ (.int .u64 (a : Nat))).setCell ⟨Sw, 1, none⟩ (.int .u64 (b : Nat))).setCell ⟨Sw, 2, none⟩ (.int .u64 (d : Nat))) := by
  have hp : Past [Sw] W (((W.setCell ⟨Sw, 0, none⟩ (.int .u64 (a : Nat))).setCell ⟨Sw, 1, none⟩ (.int .u64 (b : Nat))).setCell ⟨Sw, 2, none⟩ (.int .u64 (d : Nat))) :=
    (((Past.refl [Sw] W).store (p := ⟨Sw, 0, none⟩) (.inl (by simp)) _).store (p := ⟨Sw, 1, none⟩) (.inl (by simp)) _).store (p := ⟨Sw, 2, none⟩) (.inl (by simp)) _
  obtain ⟨n0, n1, n2, n3, n4, n5⟩ := x.ne
  have q : ∀ {i u}, W.cell? ⟨Se, i, none⟩ = some u → (((W.setCell ⟨Sw, 0, none⟩ (.int .u64 (a : Nat))).setCell ⟨Sw, 1, none⟩ (.int .u64 (b : Nat))).setCell ⟨Sw, 2, none⟩ (.int .u64 (d : Nat))).cell? ⟨Se, i, none⟩ = some u := fun {i u} hc => hp.cell hc (by simpa using n0.symm)
  have y0 := x.t0
  have y1 := x.t1
  have y2 := x.t2
  have yf := x.fz
  refine ⟨x.rn.other hp x.hw n1 n2 n3 n4 n5, q x.e0, q x.e1, q x.e2, ?_, ?_, ?_, ?_, x.hw, x.ne⟩ <;> simp [World.cell?_setCell_same', World.cell?_setCell_other, y0, y1, y2, yf]
theorem atS_zero {g : Gp} {i : Int} (hg : g.Ok) (h : fullAt g i = false) : (atS g i).key = 0 ∧ (atS g i).val = 0 ∧ (atS g i).hash = 0 := by
  rcases inR_cases i with ⟨hr, _⟩ | ⟨hr, k, hk, rfl⟩
  · unfold atS; rw [if_neg (by rw [hr]; decide)]; exact ⟨rfl, rfl, rfl⟩
  · unfold atS; rw [if_pos hr]
    rw [fullAt_nat g hk] at h
    exact (hg _).zero (of_decide_eq_false h)
theorem opens_any (B : Nat) (g : Gp) (hg : g.Ok) (w : World) (h : GAt B 0 g w) :
    Calls Tryd.prog 24 #[.agg #[.pointer (some ⟨B, 0, none⟩)]] w fun e w' => e = .returned (.bool (decide (0 < count 1 g))) ∧ Below w.heap.size w w' := by
  have c := open_any B 0 g hg w h
  rw [opens_count] at c
  exact c
theorem rcount_1 (R : Nat) (g : Gp) (w : World) (h : RAt R g w) : Calls Tryd.prog 25 #[.pointer (some ⟨R, 0, none⟩), .int .i64 1] w fun e w' => e = .returned (.int .i64 (count 1 g : Nat)) ∧ Below w.heap.size w w' := rcount_any R g 1 w h
theorem rcount_2 (R : Nat) (g : Gp) (w : World) (h : RAt R g w) : Calls Tryd.prog 25 #[.pointer (some ⟨R, 0, none⟩), .int .i64 2] w fun e w' => e = .returned (.int .i64 (count 2 g : Nat)) ∧ Below w.heap.size w w' := rcount_any R g 2 w h
theorem rcount_3 (R : Nat) (g : Gp) (w : World) (h : RAt R g w) : Calls Tryd.prog 25 #[.pointer (some ⟨R, 0, none⟩), .int .i64 3] w fun e w' => e = .returned (.int .i64 (count 3 g : Nat)) ∧ Below w.heap.size w w' := rcount_any R g 3 w h
theorem head_at {P : Program} {md : Region.Mode} {C : World → Prop} (S : Array Bool) (m : List Bool) {l : List Oper} {g : Nat} {listed : Array Bool} {a : Go.Act} {w : World} {Q' : Exit → Go.Act → World → Prop} (hB : checkB md l.toArray m listed = true) (hS : setAll m 0 listed = S) (hC : C w)
    (h : wpQuiet P l.toArray C (fun a' => ∀ w', C w' → wpAny P md l.toArray Q' g S a' w') (sel m l) a) : wpAny P md l.toArray Q' (cnt m + g) listed a w := by
  subst hS
  exact wpAny_head m hB hC h
abbrev zeroRow : Array Value := #[.int .u64 0, .int .u64 0, .int .u64 0, .int .u64 0, .int .u64 0, .int .u64 0, .int .u64 0, .int .u64 0, .int .u64 0, .int .u64 0, .int .u64 0, .int .u64 0, .int .u64 0, .int .u64 0, .int .u64 0, .int .u64 0, .int .u64 0, .int .u64 0, .int .u64 0, .int .u64 0, .int .u64 0, .int .u64 0, .int .u64 0, .int .u64 0, .int .u64 0]
theorem zeroRow_some : ∀ i : Fin 25, (zeroRow[i.1]?).isSome = true := by decide
theorem Room.zero (W : World) : Room W.heap.size 0 (W.alloc (.cells zeroRow 76)) := by
  have hr := World.alloc_heap_new W (.cells zeroRow 76)
  refine ⟨fun i hi => ?_, fun i => frozen_of_row _ _ i _ _ hr⟩
  rw [show 0 + i = i from by omega, cell_of_row _ _ _ _ _ _ hr]
  exact zeroRow_some ⟨i, hi⟩
theorem Room.past {B o : Nat} {d : List Nat} {W W' : World} (h : Room B o W) (hp : Past d W W') (hB : B ∉ d) : Room B o W' :=
  ⟨fun i hi => by rw [World.cell?_of_block (w := W) (hp.block B h.lt hB)]; exact h.cells i hi, fun i => (World.frozen?_of_block (w := W) (hp.block B h.lt hB)).trans (h.fz i)⟩
/-- behind the loop: the zero group's place, and the meter -/
structure Zs (w : World) (Z Bm : Nat) (m : Mt) (W : World) : Prop where
  below : Below w.heap.size w W
  room : Room Z 0 W
  ma : MAt Bm 0 m W
  ne : Z ≠ Bm
  hz : w.heap.size ≤ Z
  hm : w.heap.size ≤ Bm
theorem Zs.start {w : World} {Bg Bm R : Nat} {g d : Gp} {m : Mt} {W : World} (h : Gs w Bg Bm R g d m W) : Zs w W.heap.size Bm m (W.alloc (.cells zeroRow 76)) :=
  ⟨under.below_step h.st.below (new_block W _), Room.zero W, h.st.ma.below (new_block W _), by have := h.st.ma.lt; omega, h.st.below.size, h.st.hm⟩
theorem Zs.read {w : World} {Z Bm : Nat} {m : Mt} {W W' : World} (h : Zs w Z Bm m W) (hb : Below W.heap.size W W') : Zs w Z Bm m W' := ⟨under.below_step h.below hb, h.room.below hb, h.ma.below hb, h.ne, h.hz, h.hm⟩
theorem Zs.mstep {w : World} {Z Bm : Nat} {m m' : Mt} {W W' : World} (h : Zs w Z Bm m W) (hs : MStep Bm 0 m' W W') : Zs w Z Bm m' W' :=
  ⟨h.below.trans (hs.past.below h.below.size (by simpa using h.hm)), h.room.past hs.past (by simpa using h.ne), hs.at', h.ne, h.hz, h.hm⟩
theorem Zs.gstep {w : World} {Z Bm : Nat} {m : Mt} {g : Gp} {W W' : World} (h : Zs w Z Bm m W) (hs : GStep Z 0 g W W') : St w Z Bm g m W' :=
  ⟨h.below.trans (hs.past.below h.below.size (by simpa using h.hz)), hs.at', h.ma.past hs.past (by simpa using h.ne.symm), h.ne, h.hz, h.hm⟩
theorem new_text : ctrl.textN (word .new) = ⟨#[46, 46, 46, 46, 46, 46, 46, 46]⟩ := by decide +kernel
/-- between two rounds -/
def GsOk (w : World) (Bg Bm R k : Nat) (W : World) : Prop := ∃ g, Gs w Bg Bm R g g (mtk k) W ∧ g.Ok
set_option maxRecDepth 20000 in
theorem acts_many (s : Option Addr) (la ca : Nat) (h80 : 80 < la) (x : Addr) (w : World) (hr : w.cell? ⟨1, 0, none⟩ = some (errs.errV x)) :
    Calls Tryd.prog 3 #[.slice s la ca] w fun e w' => e = .returned (.bool true) ∧ Below w.heap.size w w' := by
  have hA := alive_any x w hr
  have h1 : (80 : Int) < (la : Int) := by omega
  go_enter Tryd.func3, Tryd.ntmps3
  go_wp2_with (go_at_call 6; refine hA.mono ?_; rintro e w1 ⟨rfl, hb1⟩)
  go_ret
  exact ⟨rfl, hb1⟩
set_option maxRecDepth 100000 in
set_option maxHeartbeats 4000000 in
theorem acts_few (a : String → Addr) (s : Option Addr) (la ca : Nat) (az : Nat → Act) (h80 : la ≤ 80) (w : World) (hN : errs.ErrsOk errs.names a w) (hT : TabOk w) (hA : ∀ j, j < la → ActCells s w j (az j)) :
    Calls Tryd.prog 3 #[.slice s la ca] w fun e w' => e = .returned (.bool true) ∧ Below w.heap.size w w' := by
  have hE : Errs2 a w := ⟨hN.at errs.gErrRange (errs.nm_mem (i := 0) (by decide)), hN.at errs.gErrState (errs.nm_mem (i := 4) (by decide))⟩
  have hAl := alive_any _ w hE.state
  have h1 : (la : Int) ≤ 80 := by omega
  have HN := Lib.hid hN
  have HE := Lib.hid hE
  have HT := Lib.hid hT
  have HA := Lib.hid hA
  clear hN hE hT hA
  go_enter Tryd.func3, Tryd.ntmps3
  go_wp2_with (first
    | (go_at_call 6; refine hAl.mono ?_; rintro e w1 ⟨rfl, hb1⟩)
    | (go_at_call 7; refine (new_any _).mono ?_; rintro e w2 ⟨rfl, rfl⟩)
    | (go_at_call 8; refine (rnew_any _).mono ?_; rintro e w3 ⟨rfl, hb3, hr3⟩))
  have HE1 := Lib.hid (HE.out.below hb1)
  have HN1 := Lib.hid (HN.out.below hb1)
  have HT1 := Lib.hid (HT.out.below hb1 HT.out.lt)
  have hG2 := GAt.new w1
  have hz2 := World.size_alloc w1 (.cells newRow 76)
  have hb2 := new_block w1 (.cells newRow 76)
  have hS0 : Gs w1 w1.heap.size w3.heap.size (w1.heap.size + 1) .new .new .zero (w3.alloc (.cells #[.int .i64 0, .int .i64 0, .int .i64 0, .int .i64 0, .int .i64 0, .int .i64 0, .int .i64 0, .bool false] 32)) := by
    have hM := MAt.new w3
    have l3 := hr3.lt
    have s2 := hb2.size
    have s3 := hb3.size
    have b4 := new_block w3 (.cells #[.int .i64 0, .int .i64 0, .int .i64 0, .int .i64 0, .int .i64 0, .int .i64 0, .int .i64 0, .bool false] 32)
    rw [hz2] at hr3 l3 s3
    exact ⟨⟨under.below_step (under.below_step hb2 hb3) b4, (hG2.below hb3).below b4, hM, by omega, Nat.le_refl _, by omega⟩, hr3.below b4, by omega, by omega, by omega⟩
  generalize w3.alloc (.cells #[.int .i64 0, .int .i64 0, .int .i64 0, .int .i64 0, .int .i64 0, .int .i64 0, .int .i64 0, .bool false] 32) = W1 at hS0 ⊢
  clear hG2 hz2 hb2 hb3 hr3 hAl
  generalize hBg : w1.heap.size = Bg at hS0 ⊢
  generalize hR0 : Bg + 1 = R0 at hS0 ⊢
  generalize w3.heap.size = Bm at hS0 ⊢
  clear hBg hR0 w3
  have HI : Hid (GsOk w1 Bg Bm R0 0 W1) := Lib.hid ⟨_, by rw [mtk_zero]; exact hS0, Gp.Ok.new⟩
  clear hS0
  go_loopw [33, 4] (fun i s4 wr => ∃ k R : Nat, k ≤ la ∧ i = .int .i64 k ∧ s4 = .pointer (some ⟨R, 0, none⟩) ∧ Hid (GsOk w1 Bg Bm R k wr)) (fun i _ _ => la - (intOf i).toNat)
  case atStart => exact ⟨0, R0, by omega, rfl, rfl, HI⟩
  case round =>
    obtain ⟨k, R, hk, rfl, rfl, HI2⟩ := hrel
    clear HI
    rcases Nat.lt_or_ge k la with hkl | hkl
    · obtain ⟨⟨x, rfl, hcs⟩, hi0, hi1, bk, bv, bh⟩ := HA.out k hkl
      obtain ⟨g, hS, hok⟩ := HI2.out
      clear HI2
      obtain ⟨c0, c1, c2, c3, c4⟩ := hcs _ (under.below_step hb1 hS.st.below)
      have hki : (k : Int) < (la : Int) := by omega
      have hk80 : k ≤ 80 := by omega
      have HS := Lib.hid hS
      have HG := Lib.hid hok
      clear hS hok hcs
      generalize az k = ac at *
      -- THE ROUND
      obtain ⟨m1, hm1⟩ : ∃ m1, mtk (k + 1) = m1 := ⟨_, rfl⟩
      have hmk := mtk_next hk80
      rw [hm1] at hmk
      have HM1 := Lib.hid hm1
      have HMK := Lib.hid hmk
      clear hmk hm1
      go_upto_block 2 with (first
        | (go_at_call 10; refine (working_any _ _ _).mono ?_; rintro e W2 ⟨rfl, hb2⟩)
        | (go_at_call 9; refine (look_visits _ _ Bm 0 _ _ ((HS.out.read (new_block _ _)).read hb2).st.ma).mono ?_; rintro e W3 ⟨rfl, hs3⟩; rw [HMK.out] at hs3; have R1 := Rn.start (a := ac) HS.out hb2 hs3; have fk := R1.ck))
      clear hb2 hs3
      as_aux_lemma =>
        generalize W3.heap.size = Sv at R1 fk ⊢
        generalize W3.alloc (.cells #[.pointer (some ⟨Bg, 0, none⟩)] 39) = W4 at R1 fk ⊢
        generalize wr.heap.size = Sa at R1 fk ⊢
        have HR := Lib.hid R1
        clear R1 fk W2 W3 c0 c1 c2 c3 c4
        go_cut [4, 9, 10, 11, 12, 13, 14, 15, 16] from 44 to 120 (fun s4 s9 s10 s11 s12 s13 s14 s15 s16 wx => ∃ (R' : Nat) (g' : Gp), s4 = .pointer (some ⟨R', 0, none⟩) ∧ Hid (Rn w1 Bg Bm R' Sa Sv ac g' g' m1 wx ∧ g'.Ok))
        case first =>
          as_aux_lemma =>
            have R1 := HR.out
            have fi := R1.ci
            have fy := R1.cky
            have fl := R1.cvl
            have fh := R1.chs
            have fv := R1.cv
            by_cases k0 : ac.kind = 0
            · have d0 : (ac.kind == 0) = true := by simp [k0]
              as_aux_lemma =>
                clear k0
                have cP := fun W hG hE => put_any a Bg 0 g ac.i ac.key ac.val ac.hash bh HG.out W hG hE
                have cR := fun W hR => rput_any R g ac.i ac.key ac.val ac.hash W hR
                have hgp := HG.out.putG ac.i bk bv bh
                have hpe := putE_le g ac.i
                generalize putG g ac.i ⟨3, ac.key, ac.val, ac.hash⟩ = gp at cP cR hgp
                generalize putB g ac.i = pb at cP cR
                generalize putE g ac.i = pe at cP cR hpe
                go_wp2_with (first
                  | (go_at_call 11; refine (cP _ R1.gs.st.ga (HE1.out.below R1.gs.st.below)).mono ?_; rintro e W6 ⟨rfl, hs6⟩; replace R1 := R1.gstep hs6; replace fi := R1.ci; replace fy := R1.cky; replace fl := R1.cvl; replace fh := R1.chs; replace fv := R1.cv; clear hs6)
                  | (go_at_call 12; refine (cR _ R1.gs.ra).mono ?_; rintro e W6 ⟨rfl, hs6⟩; replace R1 := R1.rstep hs6; replace fi := R1.ci; replace fy := R1.cky; replace fl := R1.cvl; replace fh := R1.chs; replace fv := R1.cv; clear hs6)
                  | (go_at_call 13; refine (num_err a pe hpe _ (HN1.out.below R1.gs.st.below)).mono ?_; rintro e W6 ⟨rfl, hb6⟩; replace R1 := R1.read hb6; replace fi := R1.ci; replace fy := R1.cky; replace fl := R1.cvl; replace fh := R1.chs; replace fv := R1.cv; clear hb6))
                go_meet
                case rel => exact ⟨R, gp, rfl, Lib.hid ⟨R1, hgp⟩⟩
            · by_cases k1 : ac.kind = 1
              · have d0 : (ac.kind == 0) = false := by simp [k0]
                have d1 : (ac.kind == 1) = true := by simp [k1]
                as_aux_lemma =>
                  clear k0 k1
                  have cP := fun W hG hE => val_any a Bg 0 g ac.i ac.val HG.out W hG hE
                  have cR := fun W hR => rval_any R g ac.i ac.val W hR
                  have hgp := HG.out.valG ac.i bv
                  have hpe := valE_le g ac.i
                  generalize valG g ac.i ac.val = gp at cP cR hgp
                  generalize valE g ac.i = pe at cP cR hpe
                  have hD : ActD w1 Bg Bm R Sa Sv ac g gp m1 0 W4 := R1
                  have hDr : ActD w1 Bg Bm R Sa Sv ac g gp m1 0 W4.drew := R1.read ⟨rfl, rfl, rfl, Nat.le_refl _, fun _ _ => rfl⟩
                  have qi := ActD.all (w := w1) (Bg := Bg) (Bm := Bm) (R := R) (Sa := Sa) (Sv := Sv) (c := ac) (g := g) (gp := gp) (m := m1) (p := fun W => W.cell? ⟨Sa, 1, none⟩ = some (.int .i64 ac.i)) (fun _ _ _ h => h.ci)
                  have ql := ActD.all (w := w1) (Bg := Bg) (Bm := Bm) (R := R) (Sa := Sa) (Sv := Sv) (c := ac) (g := g) (gp := gp) (m := m1) (p := fun W => W.cell? ⟨Sa, 3, none⟩ = some (.int .u64 (ac.val : Nat))) (fun _ _ _ h => h.cvl)
                  have qv := ActD.all (w := w1) (Bg := Bg) (Bm := Bm) (R := R) (Sa := Sa) (Sv := Sv) (c := ac) (g := g) (gp := gp) (m := m1) (p := fun W => W.cell? ⟨Sv, 0, none⟩ = some (.pointer (some ⟨Bg, 0, none⟩))) (fun _ _ _ h => h.cv)
                  haveI : Nonempty (stage.Un (ActD w1 Bg Bm R Sa Sv ac g gp m1)) := ⟨⟨0, W4, hD⟩⟩
                  have CP := Lib.hid cP
                  have CR := Lib.hid cR
                  clear cP cR
                  go_wp2
                  refine (wpIn_wide (n := 3)).1 ?_
                  refine move.region (D := ActD w1 Bg Bm R Sa Sv ac g gp m1) 16 [false, false, false, false, false, false, true, true, false, false, false, false, false, false, true, false] (by kernel_rfl) (by kernel_rfl) (by kernel_rfl) hDr ?_
                  simp only [List.take_succ_cons, List.take_zero, List.drop_succ_cons, List.drop_zero]
                  iterate 6
                    refine move.pure_step (fun _ _ _ => trivial) (fun K hK => ?_)
                    go_simp
                    refine hK _ ?_
                    clear hK K
                  refine move.move_step (v := errAt a pe) (fun _ _ _ => trivial) (by kernel_rfl) (fun wd hd => ?_) (fun K hK => ?_)
                  · have hd' : Rn w1 Bg Bm R Sa Sv ac g g m1 wd := hd
                    go_simp
                    refine callsIn_wide.2 ((CP.out wd hd'.gs.st.ga (HE1.out.below hd'.gs.st.below)).mono ?_)
                    rintro e' w' ⟨rfl, hs'⟩
                    exact ⟨rfl, hd'.gstep hs'⟩
                  refine hK _ ?_
                  clear hK K
                  refine move.move_step (v := .int .i64 (pe : Nat)) (fun _ _ _ => trivial) (by kernel_rfl) (fun wd hd => ?_) (fun K hK => ?_)
                  · have hd' : Rn w1 Bg Bm R Sa Sv ac gp g m1 wd := hd
                    go_simp
                    refine callsIn_wide.2 ((num_err a pe hpe wd (HN1.out.below hd'.gs.st.below)).mono ?_)
                    rintro e' w' ⟨rfl, hb'⟩
                    exact ⟨rfl, hd'.read hb'⟩
                  refine hK _ ?_
                  clear hK K
                  iterate 6
                    refine move.pure_step (fun _ _ _ => trivial) (fun K hK => ?_)
                    go_simp
                    refine hK _ ?_
                    clear hK K
                  refine move.move_step (v := .int .i64 (pe : Nat)) (fun _ _ _ => trivial) (by kernel_rfl) (fun wd hd => ?_) (fun K hK => ?_)
                  · have hd' : Rn w1 Bg Bm R Sa Sv ac gp g m1 wd := hd
                    go_simp
                    refine callsIn_wide.2 ((CR.out wd hd'.gs.ra).mono ?_)
                    rintro e' w' ⟨rfl, hs'⟩
                    exact ⟨rfl, hd'.rstep hs'⟩
                  refine hK _ ?_
                  clear hK K
                  refine move.pure_step (fun _ _ _ => trivial) (fun K hK => ?_)
                  go_simp
                  refine hK _ ?_
                  clear hK K
                  refine move.nil_step ?_
                  intro wd hd
                  have hd' : Rn w1 Bg Bm R Sa Sv ac gp gp m1 wd := hd
                  clear qi ql qv this hD hDr
                  gi_wp2
                  go_wp2
                  go_meet
                  case rel => exact ⟨R, gp, rfl, Lib.hid ⟨hd', hgp⟩⟩
              · by_cases k2 : ac.kind = 2
                · have d0 : (ac.kind == 0) = false := by simp [k0]
                  have d1 : (ac.kind == 1) = false := by simp [k1]
                  have d2 : (ac.kind == 2) = true := by simp [k2]
                  as_aux_lemma =>
                    clear k0 k1 k2
                    have cP := fun W hG hE => erase_any a Bg 0 g ac.i HG.out W hG hE
                    have cR := fun W hR => rerase_any R g ac.i W hR
                    have hgp := HG.out.eraG ac.i
                    have hpe := valE_le g ac.i
                    generalize eraG g ac.i = gp at cP cR hgp
                    generalize eraB g ac.i = pb at cP cR
                    generalize valE g ac.i = pe at cP cR hpe
                    go_wp2_with (first
                      | (go_at_call 16; refine (cP _ R1.gs.st.ga (HE1.out.below R1.gs.st.below)).mono ?_; rintro e W6 ⟨rfl, hs6⟩; replace R1 := R1.gstep hs6; replace fi := R1.ci; replace fy := R1.cky; replace fl := R1.cvl; replace fh := R1.chs; replace fv := R1.cv; clear hs6)
                      | (go_at_call 17; refine (cR _ R1.gs.ra).mono ?_; rintro e W6 ⟨rfl, hs6⟩; replace R1 := R1.rstep hs6; replace fi := R1.ci; replace fy := R1.cky; replace fl := R1.cvl; replace fh := R1.chs; replace fv := R1.cv; clear hs6)
                      | (go_at_call 13; refine (num_err a pe hpe _ (HN1.out.below R1.gs.st.below)).mono ?_; rintro e W6 ⟨rfl, hb6⟩; replace R1 := R1.read hb6; replace fi := R1.ci; replace fy := R1.cky; replace fl := R1.cvl; replace fh := R1.chs; replace fv := R1.cv; clear hb6))
                    go_meet
                    case rel => exact ⟨R, gp, rfl, Lib.hid ⟨R1, hgp⟩⟩
                · by_cases k3 : ac.kind = 3
                  · have d0 : (ac.kind == 0) = false := by simp [k0]
                    have d1 : (ac.kind == 1) = false := by simp [k1]
                    have d2 : (ac.kind == 2) = false := by simp [k2]
                    have d3 : (ac.kind == 3) = true := by simp [k3]
                    as_aux_lemma =>
                      clear k0 k1 k2 k3
                      go_wp2_with (first
                        | (go_at_call 18; refine (clear_any Bg 0 _ R1.gs.st.ga.room).mono ?_; rintro e W6 ⟨rfl, hs6⟩; replace R1 := R1.gstep hs6; replace fi := R1.ci; replace fy := R1.cky; replace fl := R1.cvl; replace fh := R1.chs; replace fv := R1.cv; clear hs6)
                        | (go_at_call 8; refine (rnew_any _).mono ?_; rintro e W7 ⟨rfl, hb7, hr7⟩))
                      go_meet
                      case rel => exact ⟨W6.heap.size, .new, rfl, Lib.hid ⟨R1.fresh hb7 hr7, Gp.Ok.new⟩⟩
                  · have d0 : (ac.kind == 0) = false := by simp [k0]
                    have d1 : (ac.kind == 1) = false := by simp [k1]
                    have d2 : (ac.kind == 2) = false := by simp [k2]
                    have d3 : (ac.kind == 3) = false := by simp [k3]
                    as_aux_lemma =>
                      clear k0 k1 k2 k3
                      go_wp2
                      go_meet
                      case rel => exact ⟨R, g, rfl, Lib.hid ⟨R1, HG.out⟩⟩
        case rest =>
          as_aux_lemma =>
            obtain ⟨R2, g2, rfl, HR2⟩ := hcut
            clear HR HS HG
            have hok := HR2.out.2
            have R1 := HR2.out.1
            have fi := R1.ci
            have fv := R1.cv
            have HA0 : Hid (atS g2 ac.i = atS g2 ac.i) := Lib.hid rfl
            have cA := fun W hG hE => at_any a Bg 0 g2 ac.i hok W hG hE
            generalize hsl : atS g2 ac.i = sl at cA
            have HSL := Lib.hid hsl
            have HOK := Lib.hid hok
            clear hsl hok HA0
            go_upto_region 30 with (go_at_call 19; refine (cA _ R1.gs.st.ga (HE1.out.below R1.gs.st.below)).mono ?_; rintro e W6 ⟨rfl, hb6⟩; replace R1 := R1.read hb6; clear hb6 fi fv; have hV := Rv.start R1 sl.key sl.val sl.hash)
            clear cA HR2
            generalize hSw : W6.heap.size + 1 = Sw at hV ⊢
            generalize W6.heap.size = Se at hV hSw ⊢
            generalize (W6.alloc (entBox sl.key sl.val sl.hash)).alloc (entBox 0 0 0) = W8 at hV ⊢
            clear hSw R1 wc
            have HV := Lib.hid hV
            go_cut [20] from 129 to 147 (fun s20 wx => s20 = .bool (fullAt g2 ac.i) ∧ Hid (Rv w1 Bg Bm R2 Sa Sv Se Sw ac g2 m1 sl.key sl.val sl.hash 0 0 0 wx))
            case first =>
              as_aux_lemma =>
                have fi := hV.rn.ci
                rcases inR_cases ac.i with ⟨hr, hi⟩ | ⟨hr, j, hj, hij⟩
                · have HFA : Hid (fullAt g2 ac.i = false) := Lib.hid (by simp [fullAt, hr])
                  have d1 : decide (0 ≤ ac.i) = false ∨ (decide (0 ≤ ac.i) = true ∧ decide (ac.i < 8) = false) := by
                    rcases hi with hi | hi
                    · exact .inl (decide_eq_false (by omega))
                    · exact .inr ⟨decide_eq_true (by omega), decide_eq_false (by omega)⟩
                  clear hr hi hV
                  rcases d1 with d1 | ⟨d1, d2⟩
                  · go_quiet (fail)
                    go_wp2_with (fail)
                    go_meet
                    case rel => exact ⟨by rw [HFA.out], Lib.hid (HV.out.read (below_drewN' _ _))⟩
                  · go_quiet (fail)
                    go_wp2_with (fail)
                    go_meet
                    case rel => exact ⟨by rw [HFA.out], Lib.hid (HV.out.read (below_drewN' _ _))⟩
                · have d1 : decide (0 ≤ ac.i) = true := decide_eq_true (by omega)
                  have d2 : decide (ac.i < 8) = true := decide_eq_true (by omega)
                  have p1 : 0 ≤ ac.i := by omega
                  have p2 : ac.i < 8 := by omega
                  have hjn : ac.i.toNat = j := by omega
                  have b3 := kd3 g2 j
                  have HFA : Hid (is 3 g2 j = fullAt g2 ac.i) := Lib.hid (by rw [hij, fullAt_nat g2 hj])
                  rw [HFA.out] at b3
                  have ckd : W8.cell? ⟨R2, ac.i.toNat * 4, none⟩ = some (.int .i64 ((g2 j).kind : Nat)) := by rw [hjn]; exact hV.rn.gs.ra.kind hj
                  generalize (g2 j).kind = kd at ckd b3
                  clear hr hij hV hjn
                  go_quiet (fail)
                  go_wp2_with (fail)
                  go_meet
                  case rel => exact ⟨by rfl, Lib.hid (HV.out.read (below_drewN' _ _))⟩
            case rest =>
              as_aux_lemma =>
                obtain ⟨rfl, HV2⟩ := hcut
                generalize hbf : fullAt g2 ac.i = bf
                have HBF := Lib.hid hbf
                clear hbf HV hV W8 W6
                go_upto_if 148 with (fail)
                go_cut [] from 149 to 156 (fun wx => Hid (Rv w1 Bg Bm R2 Sa Sv Se Sw ac g2 m1 sl.key sl.val sl.hash sl.key sl.val sl.hash wx))
                case first =>
                  as_aux_lemma =>
                    cases bf
                    · have hz := atS_zero HOK.out HBF.out
                      rw [HSL.out] at hz
                      have HZ := Lib.hid hz
                      clear hz
                      go_wp2_with (fail)
                      go_meet
                      case rel =>
                        obtain ⟨z0, z1, z2⟩ := HZ.out
                        have h := HV2.out
                        rw [z0, z1, z2] at h ⊢
                        exact Lib.hid h
                    · obtain ⟨j, hj, hij, h3⟩ := fullAt_true HBF.out
                      have p1 : 0 ≤ ac.i := by omega
                      have p2 : ac.i < 8 := by omega
                      have hjn : ac.i.toNat = j := by omega
                      have hsj : g2 j = sl := by rw [← HSL.out]; unfold atS; rw [if_pos (by rw [hij]; exact inR_nat hj), hjn]
                      have fi := HV2.out.rn.ci
                      have t0 := HV2.out.t0
                      have t1 := HV2.out.t1
                      have t2 := HV2.out.t2
                      have tf := HV2.out.fz
                      have c1 : wc.cell? ⟨R2, ac.i.toNat * 4 + 1, none⟩ = some (.int .u64 (sl.key : Nat)) := by rw [hjn, ← hsj]; exact HV2.out.rn.gs.ra.key hj
                      have c2 : wc.cell? ⟨R2, ac.i.toNat * 4 + 2, none⟩ = some (.int .u64 (sl.val : Nat)) := by rw [hjn, ← hsj]; exact HV2.out.rn.gs.ra.val hj
                      have c3 : wc.cell? ⟨R2, ac.i.toNat * 4 + 3, none⟩ = some (.int .u64 (sl.hash : Nat)) := by rw [hjn, ← hsj]; exact HV2.out.rn.gs.ra.hash hj
                      clear hsj hjn hij h3
                      go_wp2
                      refine wp_region_tail_drew 8 (by kernel_rfl) (by kernel_rfl) ?_
                      simp only [List.take_succ_cons, List.take_zero, List.drop_succ_cons, List.drop_zero]
                      repeat (quiet_step (fail))
                      refine wpQuiet_nil ?_
                      intro w4 hw4
                      obtain ⟨n4, rfl⟩ := hw4
                      go_wp2
                      go_meet
                      case rel => exact Lib.hid ((HV2.out.read (below_drewN' _ n4)).set sl.key sl.val sl.hash)
                case rest =>
                  as_aux_lemma =>
                    have HV3 := hcut
                    clear HV2 hcut
                    have cC0 := fun n : Under wc => find_any Bg 0 g2 ac.key ac.hash bh HOK.out n.W (HV3.out.read n.below).rn.gs.st.ga (HT1.out.below (HV3.out.read n.below).rn.gs.st.below HT1.out.lt)
                    have cC1 := fun n : Under wc => rfind_any R2 g2 ac.key ac.hash n.W (HV3.out.read n.below).rn.gs.ra
                    have cC2 := fun n : Under wc => free_any Bg 0 g2 HOK.out n.W (HV3.out.read n.below).rn.gs.st.ga (HT1.out.below (HV3.out.read n.below).rn.gs.st.below HT1.out.lt)
                    have cC3 := fun n : Under wc => rleast_any R2 g2 n.W (HV3.out.read n.below).rn.gs.ra
                    have cC4 := fun n : Under wc => opens_any Bg g2 HOK.out n.W (HV3.out.read n.below).rn.gs.st.ga
                    have cC5 := fun n : Under wc => rcount_1 R2 g2 n.W (HV3.out.read n.below).rn.gs.ra
                    have cC6 := fun n : Under wc => full_any Bg 0 g2 HOK.out n.W (HV3.out.read n.below).rn.gs.st.ga
                    have cC7 := fun n : Under wc => rcount_3 R2 g2 n.W (HV3.out.read n.below).rn.gs.ra
                    have cC8 := fun n : Under wc => deleted_any Bg 0 g2 HOK.out n.W (HV3.out.read n.below).rn.gs.st.ga
                    have cC9 := fun n : Under wc => rcount_2 R2 g2 n.W (HV3.out.read n.below).rn.gs.ra
                    have cC10 := fun n : Under wc => text_any Bg 0 g2 n.W (HV3.out.read n.below).rn.gs.st.ga
                    have cC11 := fun n : Under wc => rtext_any R2 g2 HOK.out n.W (HV3.out.read n.below).rn.gs.ra
                    generalize find ac.key ac.hash g2 = vf at cC0 cC1
                    generalize least g2 = vl at cC2 cC3
                    generalize count 1 g2 = n1 at cC4 cC5
                    generalize count 3 g2 = n3 at cC6 cC7
                    generalize count 2 g2 = n2 at cC8 cC9
                    generalize ctrl.textN (group.word g2) = tx at cC10 cC11
                    have cU0 := Under.cell HV3.out.e0
                    have cU1 := Under.cell HV3.out.e1
                    have cU2 := Under.cell HV3.out.e2
                    have cU3 := Under.cell HV3.out.t0
                    have cU4 := Under.cell HV3.out.t1
                    have cU5 := Under.cell HV3.out.t2
                    have cU6 := Under.cell HV3.out.rn.cv
                    have cU7 := Under.cell HV3.out.rn.cky
                    have cU8 := Under.cell HV3.out.rn.chs
                    go_upto_region 33 with (fail)
                    as_aux_lemma =>
                      skip -- CUT
                      refine wp_region_any (by as_aux_lemma => kernel_rfl) ?_
                      as_aux_lemma =>
                        skip -- CUT
                        refine head_at (C := fun w' => ∃ k : Under wc, w' = k.W) (g := 7) (List.toArray (true :: true :: true :: true :: true :: true :: true :: true :: true :: true :: true :: true :: true :: true :: true :: true :: true :: true :: true :: true :: true :: true :: true :: true :: true :: true :: true :: true :: true :: true :: true :: true :: true :: true :: true :: true :: true :: true :: true :: true :: true :: true :: true :: true :: true :: true :: true :: true :: true :: true :: true :: true :: true :: true :: true :: true :: true :: true :: true :: true :: true :: true :: true :: true :: false :: false :: false :: false :: false :: false :: false :: [])) (true :: true :: true :: true :: true :: true :: true :: true :: true :: true :: true :: true :: true :: true :: true :: true :: true :: true :: true :: true :: true :: true :: true :: true :: true :: true :: true :: true :: true :: true :: true :: true :: true :: true :: true :: true :: true :: true :: true :: true :: true :: true :: true :: true :: true :: true :: true :: true :: true :: true :: true :: true :: true :: true :: true :: true :: true :: true :: true :: true :: true :: true :: true :: true :: false :: false :: false :: false :: false :: false :: false :: []) (by as_aux_lemma => kernel_rfl) (by as_aux_lemma => kernel_rfl) ⟨⟨_, under.drew_below wc⟩, rfl⟩ ?_
                        as_aux_lemma =>
                          skip -- CUT
                          simp only [List.append_eq, List.cons_append, List.nil_append, sel]
                          as_aux_lemma =>
                            skip -- CUT
                            iterate 16 (go_big_quiet_step (first
                              | (go_at_call 20; (with_reducible refine under_call (cC0 _)))
                              | (go_at_call 21; (with_reducible refine under_call (cC1 _)))
                              | (go_at_call 22; (with_reducible refine under_call (cC2 _)))
                              | (go_at_call 23; (with_reducible refine under_call (cC3 _)))
                              | (go_at_call 24; (with_reducible refine under_call (cC4 _)))
                              | (go_at_call 25; (with_reducible refine under_call (cC5 _)))
                              | (go_at_call 26; (with_reducible refine under_call (cC6 _)))
                              | (go_at_call 25; (with_reducible refine under_call (cC7 _)))
                              | (go_at_call 27; (with_reducible refine under_call (cC8 _)))
                              | (go_at_call 25; (with_reducible refine under_call (cC9 _)))
                              | (go_at_call 28; (with_reducible refine under_call (cC10 _)))
                              | (go_at_call 29; (with_reducible refine under_call (cC11 _)))))
                            as_aux_lemma =>
                              skip -- CUT
                              iterate 16 (go_big_quiet_step (first
                                | (go_at_call 20; (with_reducible refine under_call (cC0 _)))
                                | (go_at_call 21; (with_reducible refine under_call (cC1 _)))
                                | (go_at_call 22; (with_reducible refine under_call (cC2 _)))
                                | (go_at_call 23; (with_reducible refine under_call (cC3 _)))
                                | (go_at_call 24; (with_reducible refine under_call (cC4 _)))
                                | (go_at_call 25; (with_reducible refine under_call (cC5 _)))
                                | (go_at_call 26; (with_reducible refine under_call (cC6 _)))
                                | (go_at_call 25; (with_reducible refine under_call (cC7 _)))
                                | (go_at_call 27; (with_reducible refine under_call (cC8 _)))
                                | (go_at_call 25; (with_reducible refine under_call (cC9 _)))
                                | (go_at_call 28; (with_reducible refine under_call (cC10 _)))
                                | (go_at_call 29; (with_reducible refine under_call (cC11 _)))))
                              as_aux_lemma =>
                                skip -- CUT
                                iterate 16 (go_big_quiet_step (first
                                  | (go_at_call 20; (with_reducible refine under_call (cC0 _)))
                                  | (go_at_call 21; (with_reducible refine under_call (cC1 _)))
                                  | (go_at_call 22; (with_reducible refine under_call (cC2 _)))
                                  | (go_at_call 23; (with_reducible refine under_call (cC3 _)))
                                  | (go_at_call 24; (with_reducible refine under_call (cC4 _)))
                                  | (go_at_call 25; (with_reducible refine under_call (cC5 _)))
                                  | (go_at_call 26; (with_reducible refine under_call (cC6 _)))
                                  | (go_at_call 25; (with_reducible refine under_call (cC7 _)))
                                  | (go_at_call 27; (with_reducible refine under_call (cC8 _)))
                                  | (go_at_call 25; (with_reducible refine under_call (cC9 _)))
                                  | (go_at_call 28; (with_reducible refine under_call (cC10 _)))
                                  | (go_at_call 29; (with_reducible refine under_call (cC11 _)))))
                                as_aux_lemma =>
                                  skip -- CUT
                                  repeat (go_big_quiet_step (first
                                    | (go_at_call 20; (with_reducible refine under_call (cC0 _)))
                                    | (go_at_call 21; (with_reducible refine under_call (cC1 _)))
                                    | (go_at_call 22; (with_reducible refine under_call (cC2 _)))
                                    | (go_at_call 23; (with_reducible refine under_call (cC3 _)))
                                    | (go_at_call 24; (with_reducible refine under_call (cC4 _)))
                                    | (go_at_call 25; (with_reducible refine under_call (cC5 _)))
                                    | (go_at_call 26; (with_reducible refine under_call (cC6 _)))
                                    | (go_at_call 25; (with_reducible refine under_call (cC7 _)))
                                    | (go_at_call 27; (with_reducible refine under_call (cC8 _)))
                                    | (go_at_call 25; (with_reducible refine under_call (cC9 _)))
                                    | (go_at_call 28; (with_reducible refine under_call (cC10 _)))
                                    | (go_at_call 29; (with_reducible refine under_call (cC11 _)))))
                                  refine wpQuiet_nil ?_
                                  intro w4 hw4
                                  obtain ⟨nU, rfl⟩ := hw4
                                  as_aux_lemma =>
                                    have hVU := HV3.out.read nU.below
                                    generalize nU.W = w5 at hVU ⊢
                                    clear nU cC0 cC1 cC2 cC3 cC4 cC5 cC6 cC7 cC8 cC9 cC10 cC11 cU0 cU1 cU2 cU3 cU4 cU5 cU6 cU7 cU8
                                    have HVU := Lib.hid hVU
                                    have fv := hVU.rn.cv
                                    clear hVU
                                    refine wpAny_take (i := 66) (v := .pointer (some ⟨R2, 0, none⟩)) rfl (by kernel_rfl) (by kernel_rfl) (by kernel_rfl) (fun _ _ _ h => h) (Or.inl ⟨by rfl, fun wx => by go_simp⟩) ?_
                                    refine wpAny_ready (rs := [64]) (by kernel_rfl) (by simp) ?_
                                    refine AllReady.cons rfl (fun K hK => ?_) AllReady.nil
                                    go_simp
                                    refine hK _ _ ?_
                                    clear hK K
                                    refine wpAny_ready (rs := [65]) (by kernel_rfl) (by simp) ?_
                                    refine AllReady.cons rfl (fun K hK => ?_) AllReady.nil
                                    go_simp
                                    refine (entries_any Bg 0 g2 HOK.out _ HVU.out.rn.gs.st.ga (HT1.out.below HVU.out.rn.gs.st.below HT1.out.lt)).mono ?_
                                    rintro e w6 ⟨v6, rfl, hk6, hb6⟩
                                    obtain ⟨o6, q6, rfl, hr6⟩ := hk6.rows
                                    refine hK _ _ ?_
                                    clear hK K hk6
                                    have HV6 := Lib.hid (HVU.out.read hb6)
                                    have HR6 := Lib.hid hr6
                                    clear hr6 hb6 fv
                                    refine wpAny_ready (rs := [67]) (by kernel_rfl) (by simp) ?_
                                    refine AllReady.cons rfl (fun K hK => ?_) AllReady.nil
                                    go_simp
                                    refine (rentries_any R2 g2 _ HV6.out.rn.gs.ra).mono ?_
                                    rintro e w7 ⟨v7, rfl, hk7, hb7⟩
                                    obtain ⟨o7, q7, rfl, hr7⟩ := hk7.rows
                                    refine hK _ _ ?_
                                    clear hK K hk7
                                    have HV7 := Lib.hid (HV6.out.read hb7)
                                    have HR7 := Lib.hid (HR6.out.read hb7)
                                    have HS7 := Lib.hid hr7
                                    clear hr7 hb7
                                    refine wpAny_ready (rs := [68]) (by kernel_rfl) (by simp) ?_
                                    refine AllReady.cons rfl (fun K hK => ?_) AllReady.nil
                                    go_simp
                                    refine (same_any o6 o7 q6 q7 (fulls g2).length _ (fulls_length g2) _ HR7.out HS7.out).mono ?_
                                    rintro e w8 ⟨rfl, hb8⟩
                                    refine hK _ _ ?_
                                    clear hK K
                                    have HV8 := Lib.hid (HV7.out.read hb8)
                                    clear hb8
                                    refine wpAny_ready (rs := [69]) (by kernel_rfl) (by simp) ?_
                                    refine AllReady.cons rfl (fun K hK => ?_) AllReady.nil
                                    go_simp
                                    refine hK _ _ ?_
                                    clear hK K
                                    refine wpAny_ready (rs := [70]) (by kernel_rfl) (by simp) ?_
                                    refine AllReady.cons rfl (fun K hK => ?_) AllReady.nil
                                    go_simp
                                    refine hK _ _ ?_
                                    clear hK K
                                    refine wpAny_done (by kernel_rfl) ?_ _
                                    have cAll := fun W hM => all_any Bm 0 m1 W hM
                                    rw [← HM1.out] at cAll
                                    simp only [mtk, Mt.zero] at cAll
                                    rw [show ((k + 1 : Nat) : Int) = (k : Int) + 1 from by omega] at cAll
                                    have hM8 := HV8.out.rn.gs.st.ma
                                    rw [← HM1.out] at hM8
                                    have cA8 := cAll _ hM8
                                    clear cAll hM8
                                    go_wp2_with (go_at_call 33; refine cA8.mono ?_; rintro e w9 ⟨rfl, hb9⟩)
                                    go_roundw
                                    case rel => exact ⟨k + 1, R2, by omega, by simp, rfl, Lib.hid ⟨g2, by rw [HM1.out]; exact HV8.out.rn.gs.read hb9, HOK.out⟩⟩
                                    case measure => simp only [intOf]; omega
    · obtain rfl : k = la := by omega
      obtain ⟨g, hS, hok⟩ := HI2.out
      clear HI2 hok
      have hki : ¬ (k : Int) < (k : Int) := by omega
      go_wp2_with (fail)
      have z0 := Zs.start hS
      generalize hZ : wr.heap.size = Z at z0 ⊢
      clear hZ hS
      refine (working_any _ _ _).mono ?_
      rintro e W2 ⟨rfl, hb2⟩
      have z2 := z0.read hb2
      clear z0 hb2
      go_wp2_with (go_at_call 9; refine (look_visits _ _ Bm 0 _ _ z2.ma).mono ?_; rintro e W3 ⟨rfl, hs3⟩; have z3 := z2.mstep hs3; clear z2 hs3)
      refine (clear_any Z 0 _ z3.room).mono ?_
      rintro e W4 ⟨rfl, hs4⟩
      have y4 := z3.gstep hs4
      clear z3 hs4
      go_wp2_with (first
        | (go_at_call 10; refine (working_any _ _ _).mono ?_; rintro e W5 ⟨rfl, hb5⟩; have y5 := y4.read hb5; clear hb5)
        | (go_at_call 9; refine (look_visits _ _ Bm 0 _ _ y5.ma).mono ?_; rintro e W6 ⟨rfl, hs6⟩; have y6 := y5.mstep hs6; clear hs6)
        | (go_at_call 28; refine (text_any Z 0 .new _ y6.ga).mono ?_; rw [new_text]; rintro e W7 ⟨rfl, hb7⟩; have y7 := y6.read hb7; clear hb7))
      go_ret
      exact ⟨rfl, under.below_step hb1 y7.below⟩
theorem acts_law (a : String → Addr) (s : Option Addr) (la ca : Nat) (az : Nat → Act) (w : World) (hN : errs.ErrsOk errs.names a w) (hT : TabOk w) (hA : ∀ j, j < la → ActCells s w j (az j)) :
    Calls Tryd.prog 3 #[.slice s la ca] w fun e w' => e = .returned (.bool true) ∧ Below w.heap.size w w' := by
  rcases Nat.lt_or_ge 80 la with h | h
  · exact acts_many s la ca h _ w (hN.at errs.gErrState (errs.nm_mem (i := 4) (by decide)))
  · exact acts_few a s la ca az h w hN hT hA
end Go.Proofs.YtgpfhgkphadgkaaDoor.group
