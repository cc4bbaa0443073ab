/- GroupOrder: the walk. -/
import Derived.Test.YtgpfhgkphadgkaaDoorGroupEnts
import Derived.Test.YtgpfhgkphadgkaaDoorGroupOps
import Derived.Test.YtgpfhgkphadgkaaDoorMoves
import Derived.Test.YtgpfhgkphadgkaaDoorLate
import Derived.LoopTactic
namespace Go.Proofs.YtgpfhgkphadgkaaDoor.group
open Go.ChangeShapes Go.WideShapes Go.ChangeAt Go.RowKit swar trap under meter tail
set_option linter.unusedSimpArgs false
attribute [local go_sem] Oper.semAt_some stage.pureUpon move.stepUpon moves.stepUpon
set_option linter.unusedVariables false

/-- an entry's cells in a slice that came in -/
structure EntCells (s : Option Addr) (w : World) (j : Nat) (e : Sl) : Prop where
  cells : ∃ x, s = some x ∧ ∀ W, Below w.heap.size w W → W.cell? (x.add (j * 3)) = some (.int .u64 (e.key : Nat)) ∧ W.cell? ⟨(x.add (j * 3)).block, (x.add (j * 3)).off + 1, none⟩ = some (.int .u64 (e.val : Nat)) ∧ W.cell? ⟨(x.add (j * 3)).block, (x.add (j * 3)).off + 2, none⟩ = some (.int .u64 (e.hash : Nat))
  ok : e.Ok
  kind : e.kind = 3
/-- the first k entries stand in their slots; all from k on do -/
def fwd (ez : Nat → Sl) (k : Nat) : Gp := fun j => if j < k then ez j else .empty
def bwd (ez : Nat → Sl) (la k : Nat) : Gp := fun j => if k ≤ j ∧ j < la then ez j else .empty
theorem fwd_zero (ez : Nat → Sl) : fwd ez 0 = .new := by funext j; simp [fwd, Gp.new]
theorem fwd_put (ez : Nat → Sl) (k : Nat) : (fwd ez k).put k (ez k) = fwd ez (k + 1) := by
  funext j; unfold fwd Gp.put
  by_cases h : j = k
  · subst h; simp
  · by_cases h2 : j < k
    · simp [h, h2]; omega
    · simp [h, h2]; omega
theorem bwd_top (ez : Nat → Sl) (la : Nat) : bwd ez la la = .new := by funext j; unfold bwd Gp.new; rw [if_neg (by omega)]
theorem bwd_put (ez : Nat → Sl) (la k : Nat) (h : k < la) : (bwd ez la (k + 1)).put k (ez k) = bwd ez la k := by
  funext j; unfold bwd Gp.put
  by_cases h1 : j = k
  · subst h1; simp [h]
  · rw [if_neg h1]
    show (if k + 1 ≤ j ∧ j < la then ez j else Sl.empty) = _
    by_cases h2 : k + 1 ≤ j ∧ j < la
    · rw [if_pos h2, if_pos (by omega)]
    · rw [if_neg h2, if_neg (by omega)]
theorem bwd_zero (ez : Nat → Sl) (la : Nat) : bwd ez la 0 = fwd ez la := by funext j; simp [bwd, fwd]
theorem fwd_ok {ez : Nat → Sl} {la : Nat} (h : ∀ j, j < la → (ez j).Ok) : ∀ {k}, k ≤ la → (fwd ez k).Ok := fun hk j => by
  unfold fwd; split; exact h j (by omega); exact .of_empty
theorem bwd_ok {ez : Nat → Sl} {la : Nat} (h : ∀ j, j < la → (ez j).Ok) (k : Nat) : (bwd ez la k).Ok := fun j => by
  unfold bwd; split; exact h j (by omega); exact .of_empty
theorem fwd_free (ez : Nat → Sl) (k : Nat) : is 3 (fwd ez k) k = false ∧ is 2 (fwd ez k) k = false := by simp [is, fwd, Sl.empty]
theorem bwd_free (ez : Nat → Sl) (la k : Nat) : is 3 (bwd ez la (k + 1)) k = false ∧ is 2 (bwd ez la (k + 1)) k = false := by
  unfold is bwd; rw [if_neg (by omega)]; simp [Sl.empty]
theorem fulls_fwd {ez : Nat → Sl} {la : Nat} (hk : ∀ j, j < la → (ez j).kind = 3) (h7 : la ≤ 7) : fulls (fwd ez la) = List.range la := by
  have e : ∀ k, is 3 (fwd ez la) k = decide (k < la) := fun k => by
    unfold is fwd
    by_cases h : k < la
    · simp [h, hk k h]
    · simp [h, Sl.empty]
  unfold fulls
  rw [List.filter_congr (q := fun k => decide (k < la)) (fun k _ => e k)]
  have hl : la = 0 ∨ la = 1 ∨ la = 2 ∨ la = 3 ∨ la = 4 ∨ la = 5 ∨ la = 6 ∨ la = 7 := by omega
  rcases hl with rfl | rfl | rfl | rfl | rfl | rfl | rfl | rfl <;> decide
/-- two groups, each in a block of its own that is new, and the lens -/
structure Two (w : World) (Bl Ba Bb : Nat) (ga gb : Gp) (W : World) : Prop where
  below : Below w.heap.size w W
  aa : GAt Ba 0 ga W
  ab : GAt Bb 0 gb W
  cl : W.cell? ⟨Bl, 0, none⟩ = some (.pointer none)
  ne : Ba ≠ Bb
  nl : Bl ≠ Ba ∧ Bl ≠ Bb
  ha : w.heap.size ≤ Ba
  hb : w.heap.size ≤ Bb
theorem Two.read {w : World} {Bl Ba Bb : Nat} {ga gb : Gp} {W W' : World} (h : Two w Bl Ba Bb ga gb W) (hb : Below W.heap.size W W') : Two w Bl Ba Bb ga gb W' :=
  ⟨under.below_step h.below hb, h.aa.below hb, h.ab.below hb, (hb.cell (World.block_lt_of_cell? W _ h.cl)).trans h.cl, h.ne, h.nl, h.ha, h.hb⟩
theorem Two.stepA {w : World} {Bl Ba Bb : Nat} {ga gb g' : Gp} {W W' : World} (h : Two w Bl Ba Bb ga gb W) (hs : GStep Ba 0 g' W W') : Two w Bl Ba Bb g' gb W' :=
  ⟨h.below.trans (hs.past.below h.below.size (by simpa using h.ha)), hs.at', h.ab.past hs.past (by simp; exact fun e => h.ne e.symm), hs.past.cell h.cl (by simpa using h.nl.1), h.ne, h.nl, h.ha, h.hb⟩
theorem Two.stepB {w : World} {Bl Ba Bb : Nat} {ga gb g' : Gp} {W W' : World} (h : Two w Bl Ba Bb ga gb W) (hs : GStep Bb 0 g' W W') : Two w Bl Ba Bb ga g' W' :=
  ⟨h.below.trans (hs.past.below h.below.size (by simpa using h.hb)), h.aa.past hs.past (by simp; exact h.ne), hs.at', hs.past.cell h.cl (by simpa using h.nl.2), h.ne, h.nl, h.ha, h.hb⟩
theorem Two.new (w : World) : Two w w.heap.size (w.heap.size + 1) (w.heap.size + 1 + 1) .new .new (((w.alloc (.cells #[.pointer none] 43)).alloc (.cells newRow 76)).alloc (.cells newRow 76)) := by
  have h0 : (w.alloc (.cells #[.pointer none] 43)).cell? ⟨w.heap.size, 0, none⟩ = some (.pointer none) := (Boxed.new w _ _).cell
  have h1 := GAt.new (w.alloc (.cells #[.pointer none] 43))
  have h2 := GAt.new ((w.alloc (.cells #[.pointer none] 43)).alloc (.cells newRow 76))
  have b0 := new_block w (.cells #[.pointer none] 43)
  have b1 := new_block (w.alloc (.cells #[.pointer none] 43)) (.cells newRow 76)
  have b2 := new_block ((w.alloc (.cells #[.pointer none] 43)).alloc (.cells newRow 76)) (.cells newRow 76)
  have b12 := under.below_step b1 b2
  have z1 : (w.alloc (.cells #[.pointer none] 43)).heap.size = w.heap.size + 1 := World.size_alloc _ _
  have z2 : ((w.alloc (.cells #[.pointer none] 43)).alloc (.cells newRow 76)).heap.size = w.heap.size + 1 + 1 := by rw [World.size_alloc, z1]
  rw [z2] at h2
  rw [z1] at h1
  exact ⟨under.below_step b0 b12, h1.below b2, h2, (b12.cell (World.block_lt_of_cell? _ _ h0)).trans h0, by omega, ⟨by omega, by omega⟩, by omega, by omega⟩
/-- in a round: the groups, and an entry's box -/
structure Ord (w : World) (Bl Ba Bb Be : Nat) (e : Sl) (ga gb : Gp) (W : World) : Prop where
  two : Two w Bl Ba Bb ga gb W
  ek : W.cell? ⟨Be, 0, none⟩ = some (.int .u64 (e.key : Nat))
  ev : W.cell? ⟨Be, 1, none⟩ = some (.int .u64 (e.val : Nat))
  eh : W.cell? ⟨Be, 2, none⟩ = some (.int .u64 (e.hash : Nat))
  na : Be ≠ Ba
  nb : Be ≠ Bb
theorem Ord.read {w : World} {Bl Ba Bb Be : Nat} {e : Sl} {ga gb : Gp} {W W' : World} (h : Ord w Bl Ba Bb Be e ga gb W) (hb : Below W.heap.size W W') : Ord w Bl Ba Bb Be e ga gb W' :=
  have c : ∀ {p v}, W.cell? p = some v → W'.cell? p = some v := fun {p v} hc => (hb.cell (World.block_lt_of_cell? W p hc)).trans hc
  ⟨h.two.read hb, c h.ek, c h.ev, c h.eh, h.na, h.nb⟩
theorem Ord.stepA {w : World} {Bl Ba Bb Be : Nat} {e : Sl} {ga gb g' : Gp} {W W' : World} (h : Ord w Bl Ba Bb Be e ga gb W) (hs : GStep Ba 0 g' W W') : Ord w Bl Ba Bb Be e g' gb W' :=
  have c : ∀ {i v}, W.cell? ⟨Be, i, none⟩ = some v → W'.cell? ⟨Be, i, none⟩ = some v := fun {i v} hc => hs.past.cell hc (by simpa using h.na)
  ⟨h.two.stepA hs, c h.ek, c h.ev, c h.eh, h.na, h.nb⟩
theorem Ord.new {w : World} {Bl Ba Bb : Nat} {e : Sl} {ga gb : Gp} {W : World} (h : Two w Bl Ba Bb ga gb W) : Ord w Bl Ba Bb W.heap.size e ga gb (W.alloc (.cells #[.int .u64 (e.key : Nat), .int .u64 (e.val : Nat), .int .u64 (e.hash : Nat)] 35)) := by
  have hr := World.alloc_heap_new W (.cells #[.int .u64 (e.key : Nat), .int .u64 (e.val : Nat), .int .u64 (e.hash : Nat)] 35)
  have l1 := h.aa.lt
  have l2 := h.ab.lt
  refine ⟨h.read (new_block W _), ?_, ?_, ?_, by omega, by omega⟩
  all_goals rw [cell_of_row _ _ _ _ _ _ hr]; rfl
/-- the stages of a round's region -/
def OrdD (w : World) (Bl Ba Bb Be : Nat) (e : Sl) (ga gb g' : Gp) : Nat → World → Prop
  | 0 => Ord w Bl Ba Bb Be e ga gb
  | 1 => Ord w Bl Ba Bb Be e ga gb
  | _ => Ord w Bl Ba Bb Be e g' gb
theorem OrdD.all {w : World} {Bl Ba Bb Be : Nat} {e : Sl} {ga gb g' : Gp} {p : World → Prop} (h : ∀ g W, Ord w Bl Ba Bb Be e g gb W → p W) (q : stage.Un (OrdD w Bl Ba Bb Be e ga gb g')) : p q.W := by
  obtain ⟨s, W, hs⟩ := q
  match s, hs with
  | 0, hs => exact h _ W hs
  | 1, hs => exact h _ W hs
  | s + 2, hs => exact h _ W hs
def TwoD (w : World) (Bl Ba Bb : Nat) (ga gb g' : Gp) : Nat → World → Prop
  | 0 => Two w Bl Ba Bb ga gb
  | 1 => Two w Bl Ba Bb ga gb
  | _ => Two w Bl Ba Bb ga g'
theorem TwoD.all {w : World} {Bl Ba Bb : Nat} {ga gb g' : Gp} {p : World → Prop} (h : ∀ g W, Two w Bl Ba Bb ga g W → p W) (q : stage.Un (TwoD w Bl Ba Bb ga gb g')) : p q.W := by
  obtain ⟨s, W, hs⟩ := q
  match s, hs with
  | 0, hs => exact h _ W hs
  | 1, hs => exact h _ W hs
  | s + 2, hs => exact h _ W hs
/-- the boxes of the two views, as far as they are made -/
structure XY where
  x : Option Nat
  y : Option Nat
structure VBox (n Ba Bb b : Nat) (v : Value) (W : World) : Prop where
  box : Boxed W b 39 v
  na : b ≠ Ba
  nb : b ≠ Bb
  lo : n ≤ b
theorem VBox.read {n Ba Bb b : Nat} {v : Value} {W W' : World} (h : VBox n Ba Bb b v W) (hb : Below W.heap.size W W') : VBox n Ba Bb b v W' := ⟨(hb.block b h.box.lt).trans h.box, h.na, h.nb, h.lo⟩
theorem VBox.gstep {n Ba Bb b : Nat} {v : Value} {g : Gp} {W W' : World} (h : VBox n Ba Bb b v W) (hs : GStep Ba 0 g W W') : VBox n Ba Bb b v W' := ⟨(hs.past.block b h.box.lt (by simpa using h.na)).trans h.box, h.na, h.nb, h.lo⟩
structure XYD (w : World) (Bl Ba Bb : Nat) (ga gb : Gp) (s : XY) (W : World) : Prop where
  two : Two w Bl Ba Bb ga gb W
  bx : ∀ b, s.x = some b → VBox w.heap.size Ba Bb b (.pointer none) W
  by' : ∀ b, s.y = some b → VBox w.heap.size Ba Bb b (.pointer none) W
  ne : ∀ b c, s.x = some b → s.y = some c → b ≠ c
theorem XYD.read {w : World} {Bl Ba Bb : Nat} {ga gb : Gp} {s : XY} {W W' : World} (h : XYD w Bl Ba Bb ga gb s W) (hb : Below W.heap.size W W') : XYD w Bl Ba Bb ga gb s W' :=
  ⟨h.two.read hb, fun b e => (h.bx b e).read hb, fun b e => (h.by' b e).read hb, h.ne⟩
theorem VBox.new {w : World} {Bl Ba Bb : Nat} {ga gb : Gp} {W : World} (h : Two w Bl Ba Bb ga gb W) : VBox w.heap.size Ba Bb W.heap.size (.pointer none) (W.alloc (.cells #[.pointer none] 39)) :=
  ⟨Boxed.new W _ _, by have := h.aa.lt; omega, by have := h.ab.lt; omega, h.below.size⟩
theorem XYD.putX {w : World} {Bl Ba Bb : Nat} {ga gb : Gp} {s : XY} {W : World} (h : XYD w Bl Ba Bb ga gb s W) : XYD w Bl Ba Bb ga gb { s with x := some W.heap.size } (W.alloc (.cells #[.pointer none] 39)) :=
  ⟨h.two.read (new_block W _), fun b e => by cases e; exact VBox.new h.two, fun b e => (h.by' b e).read (new_block W _), fun b c e1 e2 => by cases e1; have := (h.by' c e2).box.lt; omega⟩
theorem XYD.putY {w : World} {Bl Ba Bb : Nat} {ga gb : Gp} {s : XY} {W : World} (h : XYD w Bl Ba Bb ga gb s W) : XYD w Bl Ba Bb ga gb { s with y := some W.heap.size } (W.alloc (.cells #[.pointer none] 39)) :=
  ⟨h.two.read (new_block W _), fun b e => (h.bx b e).read (new_block W _), fun b e => by cases e; exact VBox.new h.two, fun b c e1 e2 => by cases e2; have := (h.bx b e1).box.lt; omega⟩
def XYM (Ba Bb : Nat) : Nat → XY → Value → XY → Prop
  | 2 => fun s v s' => v = .agg #[.pointer (some ⟨Ba, 0, none⟩)] ∧ s' = s
  | 5 => fun s v s' => v = .agg #[.pointer (some ⟨Bb, 0, none⟩)] ∧ s' = s
  | 6 => fun s v s' => ∃ b, v = .pointer (some ⟨b, 0, none⟩) ∧ s' = { s with x := some b }
  | 7 => fun s v s' => ∃ b, v = .pointer (some ⟨b, 0, none⟩) ∧ s' = { s with y := some b }
  | _ => fun _ _ _ => True
theorem XYM.some (Ba Bb : Nat) (k : Nat) (s : XY) : ∃ v s', XYM Ba Bb k s v s' := by
  unfold XYM
  split
  · exact ⟨_, _, rfl, rfl⟩
  · exact ⟨_, _, rfl, rfl⟩
  · exact ⟨_, _, 0, rfl, rfl⟩
  · exact ⟨_, _, 0, rfl, rfl⟩
  · exact ⟨undef, s, trivial⟩
theorem XYM.free (Ba Bb : Nat) : ∀ i j, (i, j) ∈ [(2, 6), (2, 7), (5, 6), (5, 7), (6, 7)] → ∀ (s : XY) (u : Value) (sj : XY) (v : Value) (s2 : XY), XYM Ba Bb j s u sj → XYM Ba Bb i sj v s2 → ∃ s', XYM Ba Bb i s v s' ∧ XYM Ba Bb j s' u s2 := by
  intro i j hij s u sj v s2 h1 h2
  simp only [List.mem_cons, Prod.mk.injEq, List.not_mem_nil, or_false] at hij
  rcases hij with ⟨rfl, rfl⟩ | ⟨rfl, rfl⟩ | ⟨rfl, rfl⟩ | ⟨rfl, rfl⟩ | ⟨rfl, rfl⟩
  · obtain ⟨b, rfl, rfl⟩ := h1; obtain ⟨rfl, rfl⟩ := h2; exact ⟨s, ⟨rfl, rfl⟩, b, rfl, rfl⟩
  · obtain ⟨b, rfl, rfl⟩ := h1; obtain ⟨rfl, rfl⟩ := h2; exact ⟨s, ⟨rfl, rfl⟩, b, rfl, rfl⟩
  · obtain ⟨b, rfl, rfl⟩ := h1; obtain ⟨rfl, rfl⟩ := h2; exact ⟨s, ⟨rfl, rfl⟩, b, rfl, rfl⟩
  · obtain ⟨b, rfl, rfl⟩ := h1; obtain ⟨rfl, rfl⟩ := h2; exact ⟨s, ⟨rfl, rfl⟩, b, rfl, rfl⟩
  · obtain ⟨b, rfl, rfl⟩ := h1; obtain ⟨c, rfl, rfl⟩ := h2; exact ⟨_, ⟨c, rfl, rfl⟩, b, rfl, rfl⟩
/-- the two groups, and the boxes of their views -/
structure Vw (w : World) (Ba Bb bx by' : Nat) (ga gb : Gp) (W : World) : Prop where
  below : Below w.heap.size w W
  aa : GAt Ba 0 ga W
  ab : GAt Bb 0 gb W
  ne : Ba ≠ Bb
  ha : w.heap.size ≤ Ba
  vx : VBox w.heap.size Ba Bb bx (.pointer (some ⟨Ba, 0, none⟩)) W
  vy : VBox w.heap.size Ba Bb by' (.pointer (some ⟨Bb, 0, none⟩)) W
theorem Vw.read {w : World} {Ba Bb bx by' : Nat} {ga gb : Gp} {W W' : World} (h : Vw w Ba Bb bx by' ga gb W) (hb : Below W.heap.size W W') : Vw w Ba Bb bx by' ga gb W' :=
  ⟨under.below_step h.below hb, h.aa.below hb, h.ab.below hb, h.ne, h.ha, h.vx.read hb, h.vy.read hb⟩
theorem Vw.step {w : World} {Ba Bb bx by' : Nat} {ga gb g : Gp} {W W' : World} (h : Vw w Ba Bb bx by' ga gb W) (hs : GStep Ba 0 g W W') : Vw w Ba Bb bx by' g gb W' :=
  ⟨h.below.trans (hs.past.below h.below.size (by simpa using h.ha)), hs.at', h.ab.past hs.past (by simp; exact fun e => h.ne e.symm), h.ne, h.ha, h.vx.gstep hs, h.vy.gstep hs⟩
theorem Vw.start {w : World} {Bl Ba Bb bx by' : Nat} {ga gb : Gp} {W : World} (h : Two w Bl Ba Bb ga gb W) (vx : VBox w.heap.size Ba Bb bx (.pointer none) W) (vy : VBox w.heap.size Ba Bb by' (.pointer none) W) (hn : bx ≠ by') :
    Vw w Ba Bb bx by' ga gb ((W.setCell ⟨bx, 0, none⟩ (.pointer (some ⟨Ba, 0, none⟩))).setCell ⟨by', 0, none⟩ (.pointer (some ⟨Bb, 0, none⟩))) := by
  have k : ∀ {B g}, GAt B 0 g W → B ≠ bx → B ≠ by' → GAt B 0 g ((W.setCell ⟨bx, 0, none⟩ (.pointer (some ⟨Ba, 0, none⟩))).setCell ⟨by', 0, none⟩ (.pointer (some ⟨Bb, 0, none⟩))) := fun {B g} hg n1 n2 =>
    hg.of_block ((RowKit.Below.heap_setCell _ _ _ B n2).trans (RowKit.Below.heap_setCell _ _ _ B n1))
  refine ⟨(h.below.setCell (p := ⟨bx, 0, none⟩) vx.lo _).setCell (p := ⟨by', 0, none⟩) vy.lo _, k h.aa vx.na.symm vy.na.symm, k h.ab vx.nb.symm vy.nb.symm, h.ne, h.ha, ⟨?_, vx.na, vx.nb, vx.lo⟩, ⟨?_, vy.na, vy.nb, vy.lo⟩⟩
  · exact (vx.box.set _).other hn _
  · exact (vy.box.other hn.symm _).set _
/-- the cells of entries behind an address -/
def Cells (x : Addr) (j : Nat) (e : Sl) (W : World) : Prop :=
  W.cell? (x.add (j * 3)) = some (.int .u64 (e.key : Nat)) ∧ W.cell? ⟨(x.add (j * 3)).block, (x.add (j * 3)).off + 1, none⟩ = some (.int .u64 (e.val : Nat)) ∧ W.cell? ⟨(x.add (j * 3)).block, (x.add (j * 3)).off + 2, none⟩ = some (.int .u64 (e.hash : Nat))
theorem Cells.read {x : Addr} {j : Nat} {e : Sl} {W W' : World} (h : Cells x j e W) (hb : Below W.heap.size W W') : Cells x j e W' :=
  have c : ∀ {p v}, W.cell? p = some v → W'.cell? p = some v := fun {p v} hc => (hb.cell (World.block_lt_of_cell? W p hc)).trans hc
  ⟨c h.1, c h.2.1, c h.2.2⟩
/-- a slice holds the first k slots -/
def RowAt (o : Option Addr) (g : Gp) (k : Nat) (W : World) : Prop := ∀ j, j < k → ∃ x, o = some x ∧ Cells x j (g j) W
theorem RowAt.read {o : Option Addr} {g : Gp} {k : Nat} {W W' : World} (h : RowAt o g k W) (hb : Below W.heap.size W W') : RowAt o g k W' := fun j hj => by
  obtain ⟨x, e, hc⟩ := h j hj; exact ⟨x, e, hc.read hb⟩
theorem Kept.row {base : Nat} {W : World} {v : Value} {g : Gp} {k : Nat} (h : Kept base W v g (List.range k)) : ∃ o c, v = .slice o k c ∧ RowAt o g k W := by
  obtain ⟨hl, h⟩ := h
  simp only [List.length_range] at h
  rcases h with ⟨rfl, rfl⟩ | ⟨B, c, cur, rfl, _, hB, hn, _, hs, ht⟩
  · exact ⟨none, 0, rfl, fun j hj => by omega⟩
  · refine ⟨_, _, rfl, fun j hj => ⟨_, rfl, ?_⟩⟩
    have hadd : (⟨B, 0, none⟩ : Addr).add (j * 3) = ⟨B, j * 3, none⟩ := by unfold Addr.add; split <;> simp_all
    have hc : ∀ d, d < 3 → W.cell? ⟨B, j * 3 + d, none⟩ = (ent (g j))[d]? := fun d hd => by
      rw [cell_of_row _ _ _ _ _ _ hB]
      have h1 := rows_at g (List.range k) j d (by simpa using hj) hd
      rw [List.getElem_range] at h1
      rw [← h1, ← ht, List.getElem?_take, if_pos (by omega)]
      simp
    unfold Cells
    rw [hadd]
    exact ⟨hc 0 (by decide), hc 1 (by decide), hc 2 (by decide)⟩
def ViewM (T : ByteArray) (k : Nat) : Nat → Unit → Value → Unit → Prop
  | 1 => fun _ v _ => v = .string T
  | 3 => fun _ v _ => v = .string T
  | 7 => fun _ v _ => ∃ o c, v = .slice o k c
  | _ => fun _ _ _ => True
theorem ViewM.some (T : ByteArray) (n : Nat) (k : Nat) (s : Unit) : ∃ v s', ViewM T n k s v s' := by
  unfold ViewM
  split
  · exact ⟨_, (), rfl⟩
  · exact ⟨_, (), rfl⟩
  · exact ⟨_, (), none, 0, rfl⟩
  · exact ⟨undef, s, trivial⟩
theorem known_step {F : Fence} {n : Nat} {P : Program} {ops : Array Oper} {σ : Type} {D : σ → World → Prop} {M : Nat → σ → Value → σ → Prop} {R : Nat → Sem Next → σ → Prop} {Q : Act → σ → Prop} {k : Nat} {m : List Bool} {o : Oper} {r : List Oper} {a : Act} {s : σ} (v : Value) (ha : moves.asked F P D o a) (hw : Region.wanted o (yielded ops a.tmps) = true) (hR : R k (execOp a.eval o) s) (hv : ∀ s w, R k (execOp a.eval o) s → D s w → stage.pureUpon w v ((execOp a.eval o).run P w))
    (h : ∀ K : Act → Prop, (∀ a, late.wpT F n P ops D M R Q (k + 1) m r a s → K a) → K (a.put o.dst v)) : late.wpT F n P ops D M R Q k (false :: m) (o :: r) a s :=
  ⟨ha, hR, by simp only [Bool.false_eq_true, if_false]; exact ⟨v, .inl ⟨hw, fun q hq => hv _ _ hq q.h⟩, h _ fun _ h => h⟩⟩
/-- the views, and an entry's box -/
structure Ev (w : World) (Ba Bb bx by' Be : Nat) (g : Gp) (e : Sl) (W : World) : Prop where
  vw : Vw w Ba Bb bx by' g g W
  ek : W.cell? ⟨Be, 0, none⟩ = some (.int .u64 (e.key : Nat))
  ev : W.cell? ⟨Be, 1, none⟩ = some (.int .u64 (e.val : Nat))
  eh : W.cell? ⟨Be, 2, none⟩ = some (.int .u64 (e.hash : Nat))
theorem Ev.read {w : World} {Ba Bb bx by' Be : Nat} {g : Gp} {e : Sl} {W W' : World} (h : Ev w Ba Bb bx by' Be g e W) (hb : Below W.heap.size W W') : Ev w Ba Bb bx by' Be g e W' :=
  have c : ∀ {p v}, W.cell? p = some v → W'.cell? p = some v := fun {p v} hc => (hb.cell (World.block_lt_of_cell? W p hc)).trans hc
  ⟨h.vw.read hb, c h.ek, c h.ev, c h.eh⟩
theorem Ev.new {w : World} {Ba Bb bx by' : Nat} {g : Gp} {e : Sl} {W : World} (h : Vw w Ba Bb bx by' g g W) : Ev w Ba Bb bx by' W.heap.size g e (W.alloc (.cells #[.int .u64 (e.key : Nat), .int .u64 (e.val : Nat), .int .u64 (e.hash : Nat)] 35)) := by
  have hr := World.alloc_heap_new W (.cells #[.int .u64 (e.key : Nat), .int .u64 (e.val : Nat), .int .u64 (e.hash : Nat)] 35)
  refine ⟨h.read (new_block W _), ?_, ?_, ?_⟩
  all_goals rw [cell_of_row _ _ _ _ _ _ hr]; rfl
def RdD (w : World) (Ba Bb bx by' Be : Nat) (g : Gp) (e : Sl) (k : Nat) (s : List (Option Addr)) (W : World) : Prop := Ev w Ba Bb bx by' Be g e W ∧ ∀ o, o ∈ s → RowAt o g k W
theorem RdD.read {w : World} {Ba Bb bx by' Be : Nat} {g : Gp} {e : Sl} {k : Nat} {s : List (Option Addr)} {W W' : World} (h : RdD w Ba Bb bx by' Be g e k s W) (hb : Below W.heap.size W W') : RdD w Ba Bb bx by' Be g e k s W' :=
  ⟨h.1.read hb, fun o ho => (h.2 o ho).read hb⟩
def RdM (D : List (Option Addr) → World → Prop) (k n : Nat) (s : List (Option Addr)) (v : Value) (s' : List (Option Addr)) : Prop := n = 8 → ∃ o c, v = .slice o k c ∧ s' = o :: s ∧ ∃ W, D s' W
def RdR (D : List (Option Addr) → World → Prop) (u : Value) (n : Nat) (ins : Sem Next) (s : List (Option Addr)) : Prop := n = 11 → ∀ W, D s W → stage.pureUpon W u (ins.run Tryd.prog W)
theorem put7 (a : String → Addr) (B : Nat) (g : Gp) (k v h : Nat) (hh : h < 18446744073709551616) (hg : g.Ok) (f3 : is 3 g 7 = false) (f2 : is 2 g 7 = false) (w : World) (ha : GAt B 0 g w) (x : Addr) (hr : w.cell? ⟨1, 0, none⟩ = some (errs.errV x)) :
    Calls Tryd.prog 11 #[.agg #[.pointer (some ⟨B, 0, none⟩)], .int .i64 7, entV k v h] w fun e w' => e = .returned (.tuple #[.bool false, .nilIface]) ∧ GStep B 0 (g.put 7 ⟨3, k, v, h⟩) w w' := by
  have c := put_free B 0 g 7 k v h hh (by decide) hg f3 w ha x hr
  rw [f2] at c
  exact c
theorem erase7 (B : Nat) (g : Gp) (hg : g.Ok) (f3 : is 3 g 7 = true) (f6 : is 1 g 6 = true) (w : World) (ha : GAt B 0 g w) (x : Addr) (hr : w.cell? ⟨1, 0, none⟩ = some (errs.errV x)) :
    Calls Tryd.prog 16 #[.agg #[.pointer (some ⟨B, 0, none⟩)], .int .i64 7] w fun e w' => e = .returned (.tuple #[.bool false, .nilIface]) ∧ GStep B 0 (g.put 7 .empty) w w' := by
  have c := erase_full B 0 g 7 (by decide) hg f3 w ha x hr
  have ho : opens g = true := by unfold opens; rw [f6]; simp
  have he : erased g = .empty := by unfold erased; rw [if_pos ho]
  rw [ho, he] at c
  exact c
theorem fwd_back (ez : Nat → Sl) (k : Nat) (h : k ≤ 6) (e : Sl) : (((fwd ez k).put 7 e).put 7 .empty) = fwd ez k := by
  funext j
  unfold Gp.put
  by_cases hj : j = 7
  · subst hj; simp [fwd]; omega
  · simp [hj]
set_option maxRecDepth 100000 in
set_option maxHeartbeats 4000000 in
theorem order_few (a : String → Addr) (s : Option Addr) (la ca : Nat) (ez : Nat → Sl) (mk mv mh : Nat) (hmh : mh < 18446744073709551616) (hmk : mk < 18446744073709551616) (hmv : mv < 18446744073709551616) (h7 : la ≤ 7) (w : World) (hE : Errs2 a w) (hT : TabOk w) (hA : ∀ j, j < la → EntCells s w j (ez j)) :
    Calls Tryd.prog 5 #[.slice s la ca, entV mk mv mh] w fun e w' => e = .returned (.bool true) ∧ Below w.heap.size w w' := by
  have hb0 := new_block w (.cells #[.int .u64 (mk : Nat), .int .u64 (mv : Nat), .int .u64 (mh : Nat)] 35)
  have hrm := heap_alloc_new w (.cells #[.int .u64 (mk : Nat), .int .u64 (mv : Nat), .int .u64 (mh : Nat)] 35)
  have hAl := alive_any _ _ (hE.below hb0).state
  have h1 : (la : Int) ≤ 7 := by omega
  have hok : ∀ j, j < la → (ez j).Ok := fun j hj => (hA j hj).ok
  have hkd : ∀ j, j < la → (ez j).kind = 3 := fun j hj => (hA j hj).kind
  have HE := Lib.hid hE
  have HT := Lib.hid hT
  have HA := Lib.hid hA
  clear hE hT hA
  go_enter Tryd.func5, Tryd.ntmps5
  go_wp2_with (first
    | (go_at_call 6; refine hAl.mono ?_; rintro e w1 ⟨rfl, hb1⟩)
    | (go_at_call 7; refine (new_any _).mono ?_; rintro e w' ⟨rfl, rfl⟩))
  have hS0 := Two.new w1
  have hb01 := under.below_step hb0 hb1
  have HE1 := Lib.hid (HE.out.below hb01)
  have HT1 := Lib.hid (HT.out.below hb01 HT.out.lt)
  have hrm1 := (hb1.block _ (by simp)).trans hrm
  have cm0 : w1.cell? ⟨w.heap.size, 0, none⟩ = some (.int .u64 (mk : Nat)) := by rw [cell_of_row _ _ _ _ _ _ hrm1]; rfl
  have cm1 : w1.cell? ⟨w.heap.size, 1, none⟩ = some (.int .u64 (mv : Nat)) := by rw [cell_of_row _ _ _ _ _ _ hrm1]; rfl
  have cm2 : w1.cell? ⟨w.heap.size, 2, none⟩ = some (.int .u64 (mh : Nat)) := by rw [cell_of_row _ _ _ _ _ _ hrm1]; rfl
  generalize ((w1.alloc (.cells #[.pointer none] 43)).alloc (.cells newRow 76)).alloc (.cells newRow 76) = W1 at hS0 ⊢
  clear hrm hrm1 hb0 hb1 hAl
  generalize w1.heap.size = Bl at hS0 ⊢
  generalize hBa : Bl + 1 = Ba at hS0 ⊢
  generalize hBb : Ba + 1 = Bb at hS0 ⊢
  rw [← fwd_zero ez] at hS0
  have HS := Lib.hid hS0
  clear hS0
  go_loopw [34] (fun i wr => ∃ k : Nat, k ≤ la ∧ i = .int .i64 k ∧ Hid (Two w1 Bl Ba Bb (fwd ez k) (fwd ez 0) wr)) (fun i _ => la - (intOf i).toNat)
  case atStart => exact ⟨0, by omega, rfl, HS⟩
  case round =>
    obtain ⟨k, hk, rfl, HO⟩ := hrel
    rcases Nat.lt_or_ge k la with hkl | hkl
    · obtain ⟨⟨x, rfl, hcs⟩, eok, ekd⟩ := HA.out k hkl
      obtain ⟨c0, c1, c2⟩ := hcs _ (under.below_step hb01 HO.out.below)
      have hki : (k : Int) < (la : Int) := by omega
      have hkw : k + 1 ≤ la := by omega
      have hO := Ord.new (e := ez k) HO.out
      have hG := fwd_ok hok hk
      obtain ⟨f3, f2⟩ := fwd_free ez k
      have hp := fwd_put ez k
      have hgk := fwd_ok (ez := ez) hok hkw
      have hT1 := HO.out
      obtain ⟨g0, hg0⟩ : ∃ g0, fwd ez k = g0 := ⟨_, rfl⟩
      obtain ⟨g1, hg1⟩ : ∃ g1, fwd ez (k + 1) = g1 := ⟨_, rfl⟩
      rw [hg0] at hO hG f3 f2 hp hT1
      rw [hg1] at hp hgk
      have HG1 := Lib.hid hg1
      clear hg0 hg1 HO
      generalize ez k = e at *
      obtain ⟨kd, ky, vl, hs⟩ := e
      simp only at ekd c0 c1 c2 hO
      subst ekd
      have eoh : hs < 18446744073709551616 := eok.hash
      have zl := World.block_lt_of_cell? wr _ hT1.cl
      go_wp2_with (fail)
      clear c0 c1 c2 hcs
      generalize wr.alloc (.cells #[.int .u64 (ky : Nat), .int .u64 (vl : Nat), .int .u64 (hs : Nat)] 35) = W2 at hO ⊢
      generalize wr.heap.size = Be at hO ⊢
      have hD : OrdD w1 Bl Ba Bb Be ⟨3, ky, vl, hs⟩ g0 (fwd ez 0) g1 0 W2 := hO
      have hDr : OrdD w1 Bl Ba Bb Be ⟨3, ky, vl, hs⟩ g0 (fwd ez 0) g1 0 W2.drew := hO.read ⟨rfl, rfl, rfl, Nat.le_refl _, fun _ _ => rfl⟩
      have ql := OrdD.all (w := w1) (Bl := Bl) (Ba := Ba) (Bb := Bb) (Be := Be) (e := ⟨3, ky, vl, hs⟩) (ga := g0) (gb := fwd ez 0) (g' := g1) (p := fun W => W.cell? ⟨Bl, 0, none⟩ = some (.pointer none)) (fun _ _ h => h.two.cl)
      have qk := OrdD.all (w := w1) (Bl := Bl) (Ba := Ba) (Bb := Bb) (Be := Be) (e := ⟨3, ky, vl, hs⟩) (ga := g0) (gb := fwd ez 0) (g' := g1) (p := fun W => W.cell? ⟨Be, 0, none⟩ = some (.int .u64 (ky : Nat))) (fun _ _ h => h.ek)
      have qv := OrdD.all (w := w1) (Bl := Bl) (Ba := Ba) (Bb := Bb) (Be := Be) (e := ⟨3, ky, vl, hs⟩) (ga := g0) (gb := fwd ez 0) (g' := g1) (p := fun W => W.cell? ⟨Be, 1, none⟩ = some (.int .u64 (vl : Nat))) (fun _ _ h => h.ev)
      have qh := OrdD.all (w := w1) (Bl := Bl) (Ba := Ba) (Bb := Bb) (Be := Be) (e := ⟨3, ky, vl, hs⟩) (ga := g0) (gb := fwd ez 0) (g' := g1) (p := fun W => W.cell? ⟨Be, 2, none⟩ = some (.int .u64 (hs : Nat))) (fun _ _ h => h.eh)
      haveI : Nonempty (stage.Un (OrdD w1 Bl Ba Bb Be ⟨3, ky, vl, hs⟩ g0 (fwd ez 0) g1)) := ⟨⟨0, W2, hD⟩⟩
      refine (wpIn_wide (n := 3)).1 ?_
      refine move.region (D := OrdD w1 Bl Ba Bb Be ⟨3, ky, vl, hs⟩ g0 (fwd ez 0) g1) 11 [false, false, true, false, false, true, false, false, false, false, false] (by kernel_rfl) (by kernel_rfl) (by kernel_rfl) hDr ?_
      simp only [List.take_succ_cons, List.take_zero, List.drop_succ_cons, List.drop_zero]
      iterate 2
        refine move.pure_step (fun _ _ _ => trivial) (fun K hK => ?_)
        go_simp
        refine hK _ ?_
        clear hK K
      refine move.move_step (v := .agg #[.pointer (some ⟨Ba, 0, none⟩)]) (fun _ _ _ => trivial) (by kernel_rfl) (fun wd hd => ?_) (fun K hK => ?_)
      · have hd' : Ord w1 Bl Ba Bb Be ⟨3, ky, vl, hs⟩ g0 (fwd ez 0) wd := hd
        go_simp
        refine callsIn_wide.2 ((look_nil Ba 0 wd).mono ?_)
        rintro e' w' ⟨rfl, hb'⟩
        exact ⟨rfl, hd'.read hb'⟩
      refine hK _ ?_
      clear hK K
      iterate 2
        refine move.pure_step (fun _ _ _ => trivial) (fun K hK => ?_)
        go_simp
        refine hK _ ?_
        clear hK K
      refine move.move_step (v := .tuple #[.bool false, .nilIface]) (fun _ _ _ => trivial) (by kernel_rfl) (fun wd hd => ?_) (fun K hK => ?_)
      · have hd' : Ord w1 Bl Ba Bb Be ⟨3, ky, vl, hs⟩ g0 (fwd ez 0) wd := hd
        go_simp
        refine callsIn_wide.2 ((put_free Ba 0 g0 k ky vl hs eoh (by omega) hG f3 wd hd'.two.aa _ (HE1.out.below hd'.two.below).state).mono ?_)
        rw [f2, hp]
        rintro e' w' ⟨rfl, hs'⟩
        exact ⟨rfl, hd'.stepA hs'⟩
      refine hK _ ?_
      clear hK K
      iterate 5
        refine move.pure_step (fun _ _ _ => trivial) (fun K hK => ?_)
        go_simp
        refine hK _ ?_
        clear hK K
      refine move.nil_step ?_
      intro wd hd
      have hd' : Ord w1 Bl Ba Bb Be ⟨3, ky, vl, hs⟩ g1 (fwd ez 0) wd := hd
      clear ql qk qv qh this hD hDr
      gi_wp2
      go_wp2
      go_roundw
      case rel => exact ⟨k + 1, by omega, by simp, Lib.hid (by rw [HG1.out]; exact hd'.two)⟩
      case measure => simp [intOf]; omega
    · obtain rfl : k = la := by omega
      have hGA := fwd_ok (ez := ez) hok (Nat.le_refl k)
      have hf := fulls_fwd (ez := ez) hkd h7
      have htp := bwd_top ez k
      have hbz := bwd_zero ez k
      obtain ⟨GA, hGAe⟩ : ∃ GA, fwd ez k = GA := ⟨_, rfl⟩
      rw [hGAe] at HO hGA hf hbz
      have hSB : Two w1 Bl Ba Bb GA (bwd ez k k) wr := by rw [htp, ← fwd_zero ez]; exact HO.out
      have HSB := Lib.hid hSB
      have HGA := Lib.hid hGAe
      clear HO hSB htp hGAe
      go_wp2
      go_loopw [12] (fun i wr => ∃ r : Nat, r ≤ k ∧ i = .int .i64 ((r : Int) - 1) ∧ Hid (Two w1 Bl Ba Bb GA (bwd ez k r) wr)) (fun i _ => (intOf i + 1).toNat)
      case atStart => exact ⟨k, by omega, rfl, HSB⟩
      case round =>
        clear HSB
        obtain ⟨r, hr, rfl, HO⟩ := hrel
        cases r with
        | succ r =>
          have er : (((r + 1 : Nat) : Int) - 1) = (r : Int) := by omega
          rw [er]
          have hrk : r < k := by omega
          obtain ⟨⟨x, rfl, hcs⟩, eok, ekd⟩ := HA.out r hrk
          have hri : (r : Int) < (k : Int) := by omega
          have hr0 : decide (0 ≤ (r : Int)) = true := decide_eq_true (by omega)
          have hG := bwd_ok (ez := ez) (la := k) hok (r + 1)
          have hG1 := bwd_ok (ez := ez) (la := k) hok r
          obtain ⟨f3, f2⟩ := bwd_free ez k r
          have hp := bwd_put ez k r hrk
          have hT1 := HO.out
          obtain ⟨g0, hg0⟩ : ∃ g0, bwd ez k (r + 1) = g0 := ⟨_, rfl⟩
          obtain ⟨g1, hg1⟩ : ∃ g1, bwd ez k r = g1 := ⟨_, rfl⟩
          rw [hg0] at hG f3 f2 hp hT1
          rw [hg1] at hp hG1
          have HG1 := Lib.hid hg1
          clear hg0 hg1 HO er
          generalize ez r = e at *
          obtain ⟨kd, ky, vl, hs⟩ := e
          simp only at ekd hcs
          subst ekd
          have eoh : hs < 18446744073709551616 := eok.hash
          have hD : TwoD w1 Bl Ba Bb GA g0 g1 0 wr := hT1
          have hDr : TwoD w1 Bl Ba Bb GA g0 g1 0 wr.drew := hT1.read ⟨rfl, rfl, rfl, Nat.le_refl _, fun _ _ => rfl⟩
          have ql := TwoD.all (w := w1) (Bl := Bl) (Ba := Ba) (Bb := Bb) (ga := GA) (gb := g0) (g' := g1) (p := fun W => W.cell? ⟨Bl, 0, none⟩ = some (.pointer none)) (fun _ _ h => h.cl)
          have qk := TwoD.all (w := w1) (Bl := Bl) (Ba := Ba) (Bb := Bb) (ga := GA) (gb := g0) (g' := g1) (p := fun W => W.cell? (x.add (r * 3)) = some (.int .u64 (ky : Nat))) (fun _ W h => (hcs W (under.below_step hb01 h.below)).1)
          have qv := TwoD.all (w := w1) (Bl := Bl) (Ba := Ba) (Bb := Bb) (ga := GA) (gb := g0) (g' := g1) (p := fun W => W.cell? ⟨(x.add (r * 3)).block, (x.add (r * 3)).off + 1, none⟩ = some (.int .u64 (vl : Nat))) (fun _ W h => (hcs W (under.below_step hb01 h.below)).2.1)
          have qh := TwoD.all (w := w1) (Bl := Bl) (Ba := Ba) (Bb := Bb) (ga := GA) (gb := g0) (g' := g1) (p := fun W => W.cell? ⟨(x.add (r * 3)).block, (x.add (r * 3)).off + 2, none⟩ = some (.int .u64 (hs : Nat))) (fun _ W h => (hcs W (under.below_step hb01 h.below)).2.2)
          haveI : Nonempty (stage.Un (TwoD w1 Bl Ba Bb GA g0 g1)) := ⟨⟨0, wr, hD⟩⟩
          clear hcs
          go_wp2
          refine (wpIn_wide (n := 3)).1 ?_
          refine move.region (D := TwoD w1 Bl Ba Bb GA g0 g1) 14 [false, false, true, false, false, false, false, false, true, false, false, false, false, false] (by kernel_rfl) (by kernel_rfl) (by kernel_rfl) hDr ?_
          simp only [List.take_succ_cons, List.take_zero, List.drop_succ_cons, List.drop_zero]
          iterate 2
            refine move.pure_step (fun _ _ _ => trivial) (fun K hK => ?_)
            go_simp
            refine hK _ ?_
            clear hK K
          refine move.move_step (v := .agg #[.pointer (some ⟨Bb, 0, none⟩)]) (fun _ _ _ => trivial) (by kernel_rfl) (fun wd hd => ?_) (fun K hK => ?_)
          · have hd' : Two w1 Bl Ba Bb GA g0 wd := hd
            go_simp
            refine callsIn_wide.2 ((look_nil Bb 0 wd).mono ?_)
            rintro e' w' ⟨rfl, hb'⟩
            exact ⟨rfl, hd'.read hb'⟩
          refine hK _ ?_
          clear hK K
          iterate 5
            refine move.pure_step (fun _ _ _ => trivial) (fun K hK => ?_)
            go_simp
            refine hK _ ?_
            clear hK K
          refine move.move_step (v := .tuple #[.bool false, .nilIface]) (fun _ _ _ => trivial) (by kernel_rfl) (fun wd hd => ?_) (fun K hK => ?_)
          · have hd' : Two w1 Bl Ba Bb GA g0 wd := hd
            go_simp
            refine callsIn_wide.2 ((put_free Bb 0 g0 r ky vl hs eoh (by omega) hG f3 wd hd'.ab _ (HE1.out.below hd'.below).state).mono ?_)
            rw [f2, hp]
            rintro e' w' ⟨rfl, hs'⟩
            exact ⟨rfl, hd'.stepB hs'⟩
          refine hK _ ?_
          clear hK K
          iterate 5
            refine move.pure_step (fun _ _ _ => trivial) (fun K hK => ?_)
            go_simp
            refine hK _ ?_
            clear hK K
          refine move.nil_step ?_
          intro wd hd
          have hd' : Two w1 Bl Ba Bb GA g1 wd := hd
          clear ql qk qv qh this hD hDr
          gi_wp2
          go_wp2
          go_roundw
          case rel => exact ⟨r, by omega, by simp, Lib.hid (by rw [HG1.out]; exact hd')⟩
          case measure => simp [intOf]
        | zero =>
          have hT2 : Two w1 Bl Ba Bb GA GA wr := by have h := HO.out; rw [hbz] at h; exact h
          have hrm1 : decide (0 ≤ (((0 : Nat) : Int) - 1)) = false := by decide
          clear HO hbz
          go_wp2
          have hxy : XYD w1 Bl Ba Bb GA GA ⟨none, none⟩ wr := ⟨hT2, fun b e => (by cases e), fun b e => (by cases e), fun b c e => (by cases e)⟩
          have hxd : XYD w1 Bl Ba Bb GA GA ⟨none, none⟩ wr.drew := hxy.read ⟨rfl, rfl, rfl, Nat.le_refl _, fun _ _ => rfl⟩
          have ql : ∀ q : moves.Un (XYD w1 Bl Ba Bb GA GA), q.W.cell? ⟨Bl, 0, none⟩ = some (.pointer none) := fun q => q.h.two.cl
          haveI : Nonempty (moves.Un (XYD w1 Bl Ba Bb GA GA)) := ⟨⟨_, wr, hxy⟩⟩
          refine (wpIn_wide (n := 3)).1 ?_
          refine moves.region (D := XYD w1 Bl Ba Bb GA GA) (XYM Ba Bb) 8 [false, false, true, false, false, true, true, true] [(2, 6), (2, 7), (5, 6), (5, 7), (6, 7)] (by kernel_rfl) (by kernel_rfl) (by kernel_rfl) (fun k s _ => XYM.some Ba Bb k s) (XYM.free Ba Bb) ⟨none, none⟩ hxd ?_
          simp only [List.take_succ_cons, List.take_zero, List.drop_succ_cons, List.drop_zero]
          iterate 2
            refine moves.pure_step (fun _ _ _ => trivial) (fun K hK => ?_)
            go_simp
            refine hK _ ?_
            clear hK K
          refine moves.move_step (fun _ _ _ => trivial) (by kernel_rfl) (fun sd wd hd => ?_) ?_
          · go_simp
            refine callsIn_wide.2 ((look_nil Ba 0 wd).mono ?_)
            rintro e' w' ⟨rfl, hb'⟩
            exact ⟨_, rfl, sd, ⟨rfl, rfl⟩, hd.read hb'⟩
          rintro _ _ ⟨rfl, rfl⟩ K hK
          refine hK _ ?_
          clear hK K
          iterate 2
            refine moves.pure_step (fun _ _ _ => trivial) (fun K hK => ?_)
            go_simp
            refine hK _ ?_
            clear hK K
          refine moves.move_step (fun _ _ _ => trivial) (by kernel_rfl) (fun sd wd hd => ?_) ?_
          · go_simp
            refine callsIn_wide.2 ((look_nil Bb 0 wd).mono ?_)
            rintro e' w' ⟨rfl, hb'⟩
            exact ⟨_, rfl, sd, ⟨rfl, rfl⟩, hd.read hb'⟩
          rintro _ _ ⟨rfl, rfl⟩ K hK
          refine hK _ ?_
          clear hK K
          refine moves.move_step (fun _ _ _ => trivial) (by kernel_rfl) (fun sd wd hd => ?_) ?_
          · go_simp
            exact ⟨_, ⟨_, rfl, rfl⟩, hd.putX⟩
          rintro _ _ ⟨bx, rfl, rfl⟩ K hK
          refine hK _ ?_
          clear hK K
          refine moves.move_step (fun _ _ _ => trivial) (by kernel_rfl) (fun sd wd hd => ?_) ?_
          · go_simp
            exact ⟨_, ⟨_, rfl, rfl⟩, hd.putY⟩
          rintro _ _ ⟨by', rfl, rfl⟩ K hK
          refine hK _ ?_
          clear hK K
          refine moves.nil_step ?_
          intro wd hd
          clear ql this hxd hxy
          have hnxy := hd.ne bx by' rfl rfl
          have vx := hd.bx bx rfl
          have vy := hd.by' by' rfl
          have hTd := hd.two
          have cx := vx.box.cell
          have fx := vx.box.frozen
          have cy := vy.box.cell
          have fy := vy.box.frozen
          clear hd
          gi_wp2
          have hV0 := Vw.start hTd vx vy hnxy
          generalize (wd.setCell ⟨bx, 0, none⟩ (.pointer (some ⟨Ba, 0, none⟩))).setCell ⟨by', 0, none⟩ (.pointer (some ⟨Bb, 0, none⟩)) = W3 at hV0 ⊢
          clear hTd vx vy hnxy cx fx cy fy wd hT2
          have hxd : Vw w1 Ba Bb bx by' GA GA W3.drew := hV0.read ⟨rfl, rfl, rfl, Nat.le_refl _, fun _ _ => rfl⟩
          have qx : ∀ q : moves.Un (fun (_ : Unit) => Vw w1 Ba Bb bx by' GA GA), q.W.cell? ⟨bx, 0, none⟩ = some (.pointer (some ⟨Ba, 0, none⟩)) := fun q => q.h.vx.box.cell
          have qy : ∀ q : moves.Un (fun (_ : Unit) => Vw w1 Ba Bb bx by' GA GA), q.W.cell? ⟨by', 0, none⟩ = some (.pointer (some ⟨Bb, 0, none⟩)) := fun q => q.h.vy.box.cell
          haveI : Nonempty (moves.Un (fun (_ : Unit) => Vw w1 Ba Bb bx by' GA GA)) := ⟨⟨(), W3, hV0⟩⟩
          go_wp2
          refine (wpIn_wide (n := 3)).1 ?_
          refine moves.region (D := fun (_ : Unit) => Vw w1 Ba Bb bx by' GA GA) (ViewM (ctrl.textN (group.word GA)) k) 13 [false, true, false, true, false, false, false, true, false, false, false, false, false] [(1, 3), (1, 7), (3, 7)] (by kernel_rfl) (by kernel_rfl) (by kernel_rfl) (fun n s _ => ViewM.some _ k n s) (fun i j hij s u sj v s2 h1 h2 => ⟨(), h2, h1⟩) () hxd ?_
          simp only [List.take_succ_cons, List.take_zero, List.drop_succ_cons, List.drop_zero]
          refine moves.pure_step (fun _ _ _ => trivial) (fun K hK => ?_)
          go_simp
          refine hK _ ?_
          clear hK K
          refine moves.move_step (fun _ _ _ => trivial) (by kernel_rfl) (fun sd wd hd => ?_) ?_
          · go_simp
            refine callsIn_wide.2 ((text_any Ba 0 GA wd hd.aa).mono ?_)
            rintro e' w' ⟨rfl, hb'⟩
            exact ⟨_, rfl, ⟨sd, rfl⟩, hd.read hb'⟩
          rintro _ _ rfl K hK
          refine hK _ ?_
          clear hK K
          refine moves.pure_step (fun _ _ _ => trivial) (fun K hK => ?_)
          go_simp
          refine hK _ ?_
          clear hK K
          refine moves.move_step (fun _ _ _ => trivial) (by kernel_rfl) (fun sd wd hd => ?_) ?_
          · go_simp
            refine callsIn_wide.2 ((text_any Bb 0 GA wd hd.ab).mono ?_)
            rintro e' w' ⟨rfl, hb'⟩
            exact ⟨_, rfl, ⟨sd, rfl⟩, hd.read hb'⟩
          rintro _ _ rfl K hK
          refine hK _ ?_
          clear hK K
          iterate 3
            refine moves.pure_step (fun _ _ _ => trivial) (fun K hK => ?_)
            go_simp
            refine hK _ ?_
            clear hK K
          refine moves.move_step (fun _ _ _ => trivial) (by kernel_rfl) (fun sd wd hd => ?_) ?_
          · go_simp
            refine callsIn_wide.2 ((entries_any Ba 0 GA hGA wd hd.aa (HT1.out.below hd.below HT1.out.lt)).mono ?_)
            rintro e' w' ⟨v, rfl, hk', hb'⟩
            rw [hf] at hk'
            obtain ⟨o, c, rfl, _⟩ := hk'.row
            exact ⟨_, rfl, ⟨sd, o, c, rfl⟩, hd.read hb'⟩
          rintro _ _ ⟨o2, c2, rfl⟩ K hK
          refine hK _ ?_
          clear hK K
          iterate 5
            refine moves.pure_step (fun _ _ _ => trivial) (fun K hK => ?_)
            go_simp
            refine hK _ ?_
            clear hK K
          refine moves.nil_step ?_
          intro wd hd
          clear qx qy this hxd hV0
          gi_wp2
          have cy := hd.vy.box.cell
          have ce := fun W' (hW : wd = W') => entries_any Bb 0 GA hGA W' (hW ▸ hd.ab) (hW ▸ HT1.out.below hd.below HT1.out.lt)
          rw [hf] at ce
          go_wp2_with (go_at_call 31; refine (ce _ rfl).mono ?_; rintro e' w4 ⟨v, rfl, hk', hb'⟩; obtain ⟨oy, cY, rfl, hrow⟩ := hk'.row)
          have HV := Lib.hid (hd.read hb')
          have HRow := Lib.hid hrow
          clear cy ce hrow hk' hb' hd
          go_loopw [94] (fun i wr => ∃ j : Nat, j ≤ k ∧ i = .int .i64 j ∧ Hid (Vw w1 Ba Bb bx by' GA GA wr) ∧ Hid (RowAt oy GA k wr)) (fun i _ => k - (intOf i).toNat)
          case atStart => exact ⟨0, by omega, rfl, HV, HRow⟩
          case round =>
            clear HV HRow
            obtain ⟨j, hj, rfl, HV, HRow⟩ := hrel
            rcases Nat.lt_or_ge j k with hjk | hjk
            · have hji : (j : Int) < (k : Int) := by omega
              have hgj : GA j = ez j := by rw [← HGA.out]; simp [fwd, hjk]
              obtain ⟨x1, rfl, hcy⟩ := HRow.out j hjk
              have hls : RowAt s GA k w1 := fun j' hj' => by
                obtain ⟨⟨x, e1, hc⟩, _, _⟩ := HA.out j' hj'
                refine ⟨x, e1, ?_⟩
                have hg' : GA j' = ez j' := by rw [← HGA.out]; simp [fwd, hj']
                rw [hg']; exact hc _ hb01
              have HLs := Lib.hid hls
              obtain ⟨x2, rfl, hcs⟩ := hls j hjk
              obtain ⟨d0, d1, d2⟩ := hcy
              have hj0 : (0 : Int) ≤ (j : Int) := by omega
              have hGs := Lib.hid hgj
              clear hls hgj
              obtain ⟨e, he⟩ : ∃ e, GA j = e := ⟨_, rfl⟩
              rw [he] at d0 d1 d2 hcs
              have HE := Lib.hid he
              clear he
              obtain ⟨kd, ky, vl, hs⟩ := e
              simp only at d0 d1 d2
              have zl := World.block_lt_of_cell? wr _ d0
              go_wp2_with (fail)
              have hrx := (HRow.out).read (new_block wr (.cells #[.int .u64 (ky : Nat), .int .u64 (vl : Nat), .int .u64 (hs : Nat)] 35))
              have hE2 : Ev w1 Ba Bb bx by' wr.heap.size GA ⟨kd, ky, vl, hs⟩ _ := Ev.new (e := ⟨kd, ky, vl, hs⟩) HV.out
              clear d0 d1 d2
              generalize wr.alloc (.cells #[.int .u64 (ky : Nat), .int .u64 (vl : Nat), .int .u64 (hs : Nat)] 35) = W2 at hE2 hrx ⊢
              generalize wr.heap.size = Be at hE2 ⊢
              obtain ⟨D, hD⟩ : ∃ D, RdD w1 Ba Bb bx by' Be GA ⟨kd, ky, vl, hs⟩ k = D := ⟨_, rfl⟩
              have HD := Lib.hid hD
              have h0 : D [some x1] W2 := by rw [← hD]; exact ⟨hE2, fun o ho => by obtain rfl := List.mem_singleton.1 ho; exact hrx⟩
              have h0d : D [some x1] W2.drew := by rw [← hD] at h0 ⊢; exact h0.read ⟨rfl, rfl, rfl, Nat.le_refl _, fun _ _ => rfl⟩
              have dE : ∀ {s W}, D s W → Ev w1 Ba Bb bx by' Be GA ⟨kd, ky, vl, hs⟩ W := fun {s W} h => by rw [← hD] at h; exact h.1
              have dR : ∀ {s W}, D s W → ∀ o, o ∈ s → RowAt o GA k W := fun {s W} h => by rw [← hD] at h; exact h.2
              have dI : ∀ {s W}, Ev w1 Ba Bb bx by' Be GA ⟨kd, ky, vl, hs⟩ W → (∀ o, o ∈ s → RowAt o GA k W) → D s W := fun {s W} h1 h2 => by rw [← hD]; exact ⟨h1, h2⟩
              have qk : ∀ q : moves.Un D, q.W.cell? ⟨Be, 0, none⟩ = some (.int .u64 (ky : Nat)) := fun q => (dE q.h).ek
              have qv : ∀ q : moves.Un D, q.W.cell? ⟨Be, 1, none⟩ = some (.int .u64 (vl : Nat)) := fun q => (dE q.h).ev
              have qh : ∀ q : moves.Un D, q.W.cell? ⟨Be, 2, none⟩ = some (.int .u64 (hs : Nat)) := fun q => (dE q.h).eh
              have qx : ∀ q : moves.Un D, q.W.cell? ⟨bx, 0, none⟩ = some (.pointer (some ⟨Ba, 0, none⟩)) := fun q => (dE q.h).vw.vx.box.cell
              have qs : ∀ q : moves.Un D, Cells x2 j ⟨kd, ky, vl, hs⟩ q.W := fun q =>
                have hb := (dE q.h).vw.below
                have c : ∀ {p v}, w1.cell? p = some v → q.W.cell? p = some v := fun {p v} hc => (hb.cell (World.block_lt_of_cell? w1 p hc)).trans hc
                ⟨c hcs.1, c hcs.2.1, c hcs.2.2⟩
              have qs0 : ∀ q : moves.Un D, q.W.cell? (x2.add (j * 3)) = some (.int .u64 (ky : Nat)) := fun q => (qs q).1
              have qs1 : ∀ q : moves.Un D, q.W.cell? ⟨(x2.add (j * 3)).block, (x2.add (j * 3)).off + 1, none⟩ = some (.int .u64 (vl : Nat)) := fun q => (qs q).2.1
              have qs2 : ∀ q : moves.Un D, q.W.cell? ⟨(x2.add (j * 3)).block, (x2.add (j * 3)).off + 2, none⟩ = some (.int .u64 (hs : Nat)) := fun q => (qs q).2.2
              have hm8 : ∀ n, [false, false, false, false, false, false, false, false, true, false, false, false, false, false, false].getD n false = true → n = 8 := fun n hn => by
                rcases Nat.lt_or_ge n 15 with h | h
                · exact (by decide : ∀ n, n < 15 → [false, false, false, false, false, false, false, false, true, false, false, false, false, false, false].getD n false = true → n = 8) n h hn
                · rw [List.getD_eq_getElem?_getD, List.getElem?_eq_none (by simpa using h)] at hn; cases hn
              haveI : Nonempty (moves.Un D) := ⟨⟨_, W2, h0⟩⟩
              clear hD qs hrx hE2
              refine (wpIn_wide (n := 3)).1 ?_
              refine late.region (D := D) (RdM D k) (RdR D (entV ky vl hs)) (fun s => ∃ W, D s W) 15 [false, false, false, false, false, false, false, false, true, false, false, false, false, false, false] [] (by kernel_rfl) (by kernel_rfl) (by kernel_rfl)
                (fun n s _ ⟨W, hW⟩ => ⟨.slice (some x2) k 0, some x2 :: s, fun _ => ⟨_, _, rfl, rfl, W, dI (dE hW) fun o ho => ?_⟩⟩)
                (fun n s v s' hn hM _ => (hM (hm8 n hn)).elim fun _ h => h.elim fun _ h => h.2.2)
                (fun j ins s ⟨W, h⟩ hR => ⟨⟨s, W, h⟩, hR⟩)
                (fun n j ins s v s' hn hM hR e W hW => by
                  obtain ⟨o, c, _, rfl, _⟩ := hM (hm8 n hn)
                  exact hR e W (dI (dE hW) fun o' ho' => dR hW o' (List.mem_cons_of_mem _ ho')))
                (fun i hi j ins s v s' hup hM hR e => by
                  obtain rfl := hm8 i hi
                  subst e
                  exact absurd hup (by decide +kernel))
                (fun i j hij => absurd hij List.not_mem_nil) [some x1] ⟨_, h0⟩ h0d ?_
              · rcases List.mem_cons.1 ho with rfl | ho
                · intro j' hj'
                  obtain ⟨x, e1, hc⟩ := HLs.out j' hj'
                  have hb := (dE hW).vw.below
                  have c : ∀ {p v}, w1.cell? p = some v → W.cell? p = some v := fun {p v} hc => (hb.cell (World.block_lt_of_cell? w1 p hc)).trans hc
                  exact ⟨x, e1, c hc.1, c hc.2.1, c hc.2.2⟩
                · exact dR hW o ho
              simp only [List.take_succ_cons, List.take_zero, List.drop_succ_cons, List.drop_zero]
              clear dE dR dI hm8 h0 h0d hcs
              iterate 5
                refine late.pure_step (fun h => absurd h (by decide)) (fun _ _ _ => trivial) (fun K hK => ?_)
                go_simp
                refine hK _ ?_
                clear hK K
              refine late.pure_step (fun h => absurd h (by decide)) (fun _ _ _ => trivial) (fun K hK => ?_)
              go_simp
              refine hK _ ?_
              clear hK K
              iterate 2
                refine late.pure_step (fun h => absurd h (by decide)) (fun _ _ _ => trivial) (fun K hK => ?_)
                go_simp
                refine hK _ ?_
                clear hK K
              refine late.move_step (fun h => absurd h (by decide)) (fun _ _ _ => trivial) (by kernel_rfl) (fun sd wd _ hd => ?_) ?_
              · have hd' : RdD w1 Ba Bb bx by' Be GA ⟨kd, ky, vl, hs⟩ k sd wd := by rw [HD.out]; exact hd
                go_simp
                refine callsIn_wide.2 ((entries_any Ba 0 GA hGA wd hd'.1.vw.aa (HT1.out.below hd'.1.vw.below HT1.out.lt)).mono ?_)
                rintro e' w' ⟨v, rfl, hk', hb'⟩
                rw [hf] at hk'
                obtain ⟨o, c, rfl, hro⟩ := hk'.row
                have hD' : D (o :: sd) w' := by
                  rw [← HD.out]
                  exact ⟨hd'.1.read hb', fun o' ho' => (List.mem_cons.1 ho').elim (fun e => e ▸ hro) fun ho' => (hd'.2 o' ho').read hb'⟩
                exact ⟨_, rfl, o :: sd, fun _ => ⟨o, c, rfl, rfl, w', hD'⟩, hD'⟩
              intro v3 s3 hM3 K hK
              obtain ⟨o3, c3, rfl, rfl, W9, hW9⟩ := hM3 rfl
              rw [← HD.out] at hW9
              obtain ⟨x3, rfl, -⟩ := hW9.2 o3 (List.mem_cons_self) j hjk
              refine hK _ ?_
              clear hK K hM3 hW9 W9
              iterate 2
                refine late.pure_step (fun h => absurd h (by decide)) (fun _ _ _ => trivial) (fun K hK => ?_)
                go_simp
                refine hK _ ?_
                clear hK K
              refine known_step (entV ky vl hs) (fun _ _ _ => trivial) (by kernel_rfl) ?_ (fun s w hR hD => hR rfl w hD) (fun K hK => ?_)
              · intro _ W hW
                rw [← HD.out] at hW
                obtain ⟨x, e1, hc⟩ := hW.2 _ (List.mem_cons_self) j hjk
                cases e1
                rw [HE.out] at hc
                obtain ⟨g0, g1, g2⟩ := hc
                simp only at g0 g1 g2
                clear qk qv qh qx qs0 qs1 qs2
                go_simp
              refine hK _ ?_
              clear hK K
              iterate 3
                refine late.pure_step (fun h => absurd h (by decide)) (fun _ _ _ => trivial) (fun K hK => ?_)
                go_simp
                refine hK _ ?_
                clear hK K
              refine late.nil_step ?_
              intro wd hd
              have hd' : RdD w1 Ba Bb bx by' Be GA ⟨kd, ky, vl, hs⟩ k [some x3, some x1] wd := by rw [HD.out]; exact hd
              clear qk qv qh qx qs0 qs1 qs2 this hd
              gi_wp2
              go_wp2
              go_roundw
              case rel => exact ⟨j + 1, by omega, by simp, Lib.hid hd'.1.vw, Lib.hid (hd'.2 (some x1) (by simp))⟩
              case measure => simp [intOf]; omega
            · obtain rfl : j = k := by omega
              clear HRow hjk hj
              rcases Nat.lt_or_ge 6 j with h6 | h6
              · have h6i : (6 : Int) < (j : Int) := by omega
                go_wp2
                go_ret
                first
                  | exact under.below_step hb01 HV.out.below
                  | exact ⟨rfl, under.below_step hb01 HV.out.below⟩
              · have h6i : ¬ ((6 : Int) < (j : Int)) := by omega
                have f3 : is 3 GA 7 = false := by rw [← HGA.out]; unfold is fwd; rw [if_neg (by omega)]; rfl
                have f2 : is 2 GA 7 = false := by rw [← HGA.out]; unfold is fwd; rw [if_neg (by omega)]; rfl
                have f6 : is 1 GA 6 = true := by rw [← HGA.out]; unfold is fwd; rw [if_neg (by omega)]; rfl
                have fb : (GA.put 7 ⟨3, mk, mv, mh⟩).put 7 .empty = GA := by rw [← HGA.out]; exact fwd_back ez j h6 _
                have g3 : is 3 (GA.put 7 ⟨3, mk, mv, mh⟩) 7 = true := by simp [is, Gp.put]
                have g6 : is 1 (GA.put 7 ⟨3, mk, mv, mh⟩) 6 = true := by rw [is_put]; simpa using f6
                have hG7 : (GA.put 7 ⟨3, mk, mv, mh⟩).Ok := fun i => by
                  unfold Gp.put; split
                  · exact ⟨.inr (.inr rfl), hmk, hmv, hmh, fun h => absurd rfl h⟩
                  · exact hGA i
                have hc2 : count 2 GA = 0 := by
                  have h2 : is 2 GA = fun _ => false := by
                    funext i
                    rw [← HGA.out]; unfold is fwd
                    by_cases hi : i < j
                    · rw [if_pos hi, hkd i hi]; rfl
                    · rw [if_neg hi]; rfl
                  unfold count; rw [h2]; rfl
                have hV := HV.out
                have cx := hV.vx.box.cell
                go_wp2_with (first
                  | (go_at_call 28; refine (text_any Ba 0 GA _ hV.aa).mono ?_; rintro e' w5 ⟨rfl, hb5⟩; have hV5 := hV.read hb5; have cx5 := hV5.vx.box.cell; have m0 := (hV5.below.cell (World.block_lt_of_cell? w1 _ cm0)).trans cm0; have m1 := (hV5.below.cell (World.block_lt_of_cell? w1 _ cm1)).trans cm1; have m2 := (hV5.below.cell (World.block_lt_of_cell? w1 _ cm2)).trans cm2)
                  | (go_at_call 11; refine (put7 a Ba GA mk mv mh hmh hGA f3 f2 _ hV5.aa _ (HE1.out.below hV5.below).state).mono ?_; rintro e' w6 ⟨rfl, hs6⟩; have hV6 := hV5.step hs6; have cx6 := hV6.vx.box.cell)
                  | (go_at_call 16; refine (erase7 Ba _ hG7 g3 g6 _ hV6.aa _ (HE1.out.below hV6.below).state).mono ?_; rw [fb]; rintro e' w7 ⟨rfl, hs7⟩; have hV7 := hV6.step hs7; have cx7 := hV7.vx.box.cell)
                  | (go_at_call 28; refine (text_any Ba 0 GA _ hV7.aa).mono ?_; rintro e' w8 ⟨rfl, hb8⟩; have hV8 := hV7.read hb8; have cx8 := hV8.vx.box.cell)
                  | (go_at_call 27; refine (deleted_any Ba 0 GA hGA _ hV8.aa).mono ?_; rw [hc2]; rintro e' w9 ⟨rfl, hb9⟩; have hV9 := hV8.read hb9))
                go_ret
                first
                  | exact under.below_step hb01 hV9.below
                  | exact ⟨rfl, under.below_step hb01 hV9.below⟩
end Go.Proofs.YtgpfhgkphadgkaaDoor.group
