/- TableFunction: what lies in memory: the table, the meter, a row of what is there and one of the values. -/
import Derived.Test.YteedbnoefnlidaaGreatDoorTabNew
import Derived.Test.YteedbnoefnlidaaGreatDoorTabEnt
import Derived.Test.YteedbnoefnlidaaGreatDoorTableLeast
import Derived.Laws.MakeOwn
namespace Go.Proofs.YteedbnoefnlidaaGreatDoor.table
open Go.ChangeShapes Go.WideShapes Go.ChangeAt Go.RowKit Go.Shelf swar under trap meter group probe lens tail call
attribute [local go_sem] Oper.semAt_some stage.pureUpon move.stepUpon
set_option linter.unusedSimpArgs false
set_option linter.unusedVariables false

/-- two rows of la cells, each in a block of its own -/
structure Rows (Bt Bv la : Nat) (M : Nat → Option Nat) (V : Nat → Nat) (W : World) : Prop where
  th : ∀ k, k < la → W.cell? ⟨Bt, k, none⟩ = some (.bool (M k).isSome)
  va : ∀ k, k < la → W.cell? ⟨Bv, k, none⟩ = some (.int .u64 (V k : Nat))
  ft : ∀ i, W.frozen? ⟨Bt, i, none⟩ = false
  fv : ∀ i, W.frozen? ⟨Bv, i, none⟩ = false
  ne : Bt ≠ Bv
  lt : Bt < W.heap.size
  lv : Bv < W.heap.size
section
variable {Bt Bv la : Nat} {M : Nat → Option Nat} {V : Nat → Nat} {W W' : World}
theorem Rows.of_blocks (h : Rows Bt Bv la M V W) (e1 : W'.heap[Bt]? = W.heap[Bt]?) (e2 : W'.heap[Bv]? = W.heap[Bv]?) (hz : W.heap.size ≤ W'.heap.size) : Rows Bt Bv la M V W' :=
  ⟨fun k hk => (World.cell?_of_block (w := W) e1).trans (h.th k hk), fun k hk => (World.cell?_of_block (w := W) e2).trans (h.va k hk), fun i => (World.frozen?_of_block (w := W) e1).trans (h.ft i), fun i => (World.frozen?_of_block (w := W) e2).trans (h.fv i), h.ne, Nat.lt_of_lt_of_le h.lt hz, Nat.lt_of_lt_of_le h.lv hz⟩
theorem Rows.below (h : Rows Bt Bv la M V W) (hb : Below W.heap.size W W') : Rows Bt Bv la M V W' := h.of_blocks (hb.block _ h.lt) (hb.block _ h.lv) hb.size
theorem Rows.past {d : List Nat} (h : Rows Bt Bv la M V W) (hp : Past d W W') (n1 : Bt ∉ d) (n2 : Bv ∉ d) : Rows Bt Bv la M V W' := h.of_blocks (hp.block _ h.lt n1) (hp.block _ h.lv n2) hp.size
theorem off_k {a i j : Nat} (h : i ≠ j) : (⟨a, i, none⟩ : Addr) ≠ ⟨a, j, none⟩ := by intro e; injection e with _ e _; exact h e
/-- a value's cell is set -/
theorem Rows.setV (h : Rows Bt Bv la M V W) {k v : Nat} (hk : k < la) : Rows Bt Bv la M (fun j => if j = k then v else V j) (W.setCell ⟨Bv, k, none⟩ (.int .u64 (v : Nat))) := by
  refine ⟨fun j hj => ?_, fun j hj => ?_, fun i => by rw [World.frozen?_setCell]; exact h.ft i, fun i => by rw [World.frozen?_setCell]; exact h.fv i, h.ne, by rw [World.size_setCell]; exact h.lt, by rw [World.size_setCell]; exact h.lv⟩
  · rw [World.cell?_setCell_other _ _ _ _ (off_b (Ne.symm h.ne))]; exact h.th j hj
  · by_cases e : j = k
    · subst e
      rw [World.cell?_setCell_same' _ _ _ (by rw [h.va j hj]; rfl), if_pos rfl]
    · rw [World.cell?_setCell_other _ _ _ _ (off_k (Ne.symm e)), if_neg e]; exact h.va j hj
/-- a key's cell is set -/
theorem Rows.setT (h : Rows Bt Bv la M V W) {k : Nat} {o : Option Nat} (hk : k < la) : Rows Bt Bv la (set M k o) V (W.setCell ⟨Bt, k, none⟩ (.bool o.isSome)) := by
  refine ⟨fun j hj => ?_, fun j hj => ?_, fun i => by rw [World.frozen?_setCell]; exact h.ft i, fun i => by rw [World.frozen?_setCell]; exact h.fv i, h.ne, by rw [World.size_setCell]; exact h.lt, by rw [World.size_setCell]; exact h.lv⟩
  · by_cases e : j = k
    · subst e
      rw [World.cell?_setCell_same' _ _ _ (by rw [h.th j hj]; rfl), set_same]
    · rw [World.cell?_setCell_other _ _ _ _ (off_k (Ne.symm e)), set_ne _ _ e]; exact h.th j hj
  · rw [World.cell?_setCell_other _ _ _ _ (off_b h.ne)]; exact h.va j hj
theorem Rows.newset (h : Rows Bt Bv la M V W) {X : Nat} (h1 : Bt ≠ X) (h2 : Bv ≠ X) (i : Nat) (u : Value) : Rows Bt Bv la M V (W.setCell ⟨X, i, none⟩ u) :=
  h.past ((Past.refl [X] W).store (p := ⟨X, i, none⟩) (.inl (by simp)) u) (by simpa using h1) (by simpa using h2)
end
/-- between two acts -/
structure FN (w : World) (T B Bm Bt Bv la : Nat) (H : Nat → Nat) (t : Tb) (m : Mt) (M : Nat → Option Nat) (V : Nat → Nat) (W : World) : Prop where
  ls : LS w T B t Bm m W
  rw' : Rows Bt Bv la M V W
  rep : RepN H la t M
  val : ∀ k v, M k = some v → V k = v
  bt : Bt ∉ [T, B, Bm]
  bv : Bv ∉ [T, B, Bm]
  ht : w.heap.size ≤ Bt
  hv : w.heap.size ≤ Bv
section
variable {a : String → Addr} {w : World} {T B Bm Bt Bv la : Nat} {H : Nat → Nat} {t t' : Tb} {m m' : Mt} {M M' : Nat → Option Nat} {V : Nat → Nat} {W W' : World}
theorem FN.read (h : FN w T B Bm Bt Bv la H t m M V W) (hb : Below W.heap.size W W') : FN w T B Bm Bt Bv la H t m M V W' :=
  ⟨h.ls.read hb, h.rw'.below hb, h.rep, h.val, h.bt, h.bv, h.ht, h.hv⟩
theorem FN.lookv (h : FN w T B Bm Bt Bv la H t m M V W) (hs : LnStep [] (.vi Bm 0) m' W W') : FN w T B Bm Bt Bv la H t m' M V W' :=
  ⟨h.ls.lookv hs, h.rw'.past hs.past (fun e => h.bt (by simp [Ln.d] at e; simp [e])) (fun e => h.bv (by simp [Ln.d] at e; simp [e])), h.rep, h.val, h.bt, h.bv, h.ht, h.hv⟩
theorem FN.mstep (h : FN w T B Bm Bt Bv la H t m M V W) (hs : MStep Bm 0 m' W W') : FN w T B Bm Bt Bv la H t m' M V W' :=
  ⟨h.ls.mstep hs, h.rw'.past hs.past (fun e => h.bt (by simp at e; simp [e])) (fun e => h.bv (by simp at e; simp [e])), h.rep, h.val, h.bt, h.bv, h.ht, h.hv⟩
/-- what stands apart from the table's own steps -/
theorem FN.tlrows (h : FN w T B Bm Bt Bv la H t m M V W) (hs : TL T B t' (.pr Bm 0) m' W W') : Rows Bt Bv la M V W' := by
  refine h.rw'.past hs.ln.past ?_ ?_
  · intro e; apply h.bt; simp [Ln.d] at e; simp; omega
  · intro e; apply h.bv; simp [Ln.d] at e; simp; omega
theorem FN.newset (h : FN w T B Bm Bt Bv la H t m M V W) {X : Nat} (hX : w.heap.size ≤ X) (hn : X ∉ [T, B, Bm, Bt, Bv]) (i : Nat) (u : Value) : FN w T B Bm Bt Bv la H t m M V (W.setCell ⟨X, i, none⟩ u) := by
  have k : Past [X] W (W.setCell ⟨X, i, none⟩ u) := (Past.refl [X] W).store (.inl (by simp)) u
  simp at hn
  have l := h.ls
  refine ⟨⟨bset l.below X i hX u, l.at'.past k ?_ ?_, l.ok, l.ma.past k ?_, l.hT, l.hB, l.hm, l.nT, l.nB⟩, h.rw'.past k ?_ ?_, h.rep, h.val, h.bt, h.bv, h.ht, h.hv⟩ <;> simp <;> omega
/-- what is new stands apart -/
theorem FN.out (h : FN w T B Bm Bt Bv la H t m M V W) {X : Nat} (hX : W.heap.size ≤ X) : X ∉ [T, B, Bm, Bt, Bv] := by
  have h1 := h.ls.at'.lt
  have h2 := h.ls.at'.lb
  have h3 := h.ls.ma.lt
  have h4 := h.rw'.lt
  have h5 := h.rw'.lv
  simp; omega
end
/-! ### the rows, made -/
theorem infoBool : (Tryz.prog.info? 4).map (fun i => (i.zero, i.size, i.bytes)) = some (some (.bool false), 1, 1) := by kernel_rfl
theorem infoU64 : (Tryz.prog.info? 41).map (fun i => (i.zero, i.size, i.bytes)) = some (some (.int .u64 0), 1, 8) := by kernel_rfl
theorem mk_bools (n : Nat) (hn : n ≤ 100) (w : World) : (Instr.makeSlice 90 (.int .i64 n) (.int .i64 n)).run Tryz.prog w = .ok (.slice (some ⟨w.heap.size, 0, none⟩) n n) (w.alloc (.cells (madeCells #[.bool false] n) 4)) := by
  obtain ⟨i, hi, h0, h1, h2⟩ := info_parts infoBool
  have h := run_make (P := Tryz.prog) w 90 4 i (.bool false) Tryz.underlying90 hi h0 .i64 .i64 n n (by omega) (by omega) (by rw [h2]; omega) (by omega)
  rw [h1] at h
  simpa [Value.cells] using h
theorem mk_u64s (n : Nat) (hn : n ≤ 100) (w : World) : (Instr.makeSlice 22 (.int .i64 n) (.int .i64 n)).run Tryz.prog w = .ok (.slice (some ⟨w.heap.size, 0, none⟩) n n) (w.alloc (.cells (madeCells #[.int .u64 0] n) 41)) := by
  obtain ⟨i, hi, h0, h1, h2⟩ := info_parts infoU64
  have h := run_make (P := Tryz.prog) w 22 41 i (.int .u64 0) Tryz.underlying22 hi h0 .i64 .i64 n n (by omega) (by omega) (by rw [h2]; omega) (by omega)
  rw [h1] at h
  simpa [Value.cells] using h
theorem made_at (v : Value) (n k : Nat) (hk : k < n) : (madeCells #[v] n)[k]? = some v := by
  unfold madeCells
  rw [Array.getElem?_map, Array.getElem?_eq_getElem (by simpa using hk)]
  simp [Nat.mod_one]
theorem made_cell (w : World) (v : Value) (n : Nat) (ty : TypeId) (k : Nat) (hk : k < n) : (w.alloc (.cells (madeCells #[v] n) ty)).cell? ⟨w.heap.size, k, none⟩ = some v := by
  rw [cell_of_row _ _ _ _ _ _ (World.alloc_heap_new w _)]; exact made_at v n k hk
theorem made_frozen (w : World) (v : Value) (n : Nat) (ty : TypeId) (i : Nat) : (w.alloc (.cells (madeCells #[v] n) ty)).frozen? ⟨w.heap.size, i, none⟩ = false := frozen_of_row _ _ i _ _ (World.alloc_heap_new w _)
theorem Rows.new1 (w : World) (la : Nat) : Rows w.heap.size (w.heap.size + 1) la (fun _ => none) (fun _ => 0) ((w.alloc (.cells (madeCells #[.bool false] la) 4)).alloc (.cells (madeCells #[.int .u64 0] la) 41)) := by
  have b := new_block (w.alloc (.cells (madeCells #[.bool false] la) 4)) (.cells (madeCells #[.int .u64 0] la) 41)
  have hz := World.size_alloc w (.cells (madeCells #[.bool false] la) 4)
  have e := b.block w.heap.size (by omega)
  have c := made_cell (w.alloc (.cells (madeCells #[.bool false] la) 4)) (.int .u64 0) la 41
  have f := made_frozen (w.alloc (.cells (madeCells #[.bool false] la) 4)) (.int .u64 0) la 41
  rw [hz] at c f
  exact ⟨fun k hk => (World.cell?_of_block e).trans (made_cell w _ la _ k hk), c, fun i => (World.frozen?_of_block e).trans (made_frozen w _ la _ i), f, by omega, by simp; omega, by simp⟩
theorem Rows.new2 (w : World) (la : Nat) : Rows (w.heap.size + 1) w.heap.size la (fun _ => none) (fun _ => 0) ((w.alloc (.cells (madeCells #[.int .u64 0] la) 41)).alloc (.cells (madeCells #[.bool false] la) 4)) := by
  have b := new_block (w.alloc (.cells (madeCells #[.int .u64 0] la) 41)) (.cells (madeCells #[.bool false] la) 4)
  have hz := World.size_alloc w (.cells (madeCells #[.int .u64 0] la) 41)
  have e := b.block w.heap.size (by omega)
  have c := made_cell (w.alloc (.cells (madeCells #[.int .u64 0] la) 41)) (.bool false) la 4
  have f := made_frozen (w.alloc (.cells (madeCells #[.int .u64 0] la) 41)) (.bool false) la 4
  rw [hz] at c f
  exact ⟨c, fun k hk => (World.cell?_of_block e).trans (made_cell w _ la _ k hk), f, fun i => (World.frozen?_of_block e).trans (made_frozen w _ la _ i), by omega, by simp, by simp; omega⟩
/-! ### acts -/
theorem RepN.put_yes {H : Nat → Nat} {la : Nat} {t : Tb} {M : Nat → Option Nat} (h : RepN H la t M) {key v : Nat} (hk : key < la) (r : Rep H (t.puts key (H key) v) (set M key (some v))) (hl : (t.puts key (H key) v).len = t.len + (if (M key).isSome = true then 0 else 1)) : RepN H la (t.puts key (H key) v) (set M key (some v)) := by
  refine ⟨r, fun k hk' => by rw [set_ne _ _ (by omega)]; exact h.far k hk', ?_⟩
  rw [hl, h.len, cntM_some hk]; split <;> omega
theorem LS.store {w : World} {T B : Nat} {t : Tb} {Bm : Nat} {m : Mt} {W : World} (l : LS w T B t Bm m W) {X : Nat} (hX : w.heap.size ≤ X) (hn : X ∉ [T, B, Bm]) (i : Nat) (u : Value) : LS w T B t Bm m (W.setCell ⟨X, i, none⟩ u) := by
  have k : Past [X] W (W.setCell ⟨X, i, none⟩ u) := (Past.refl [X] W).store (.inl (by simp)) u
  simp at hn
  refine ⟨bset l.below X i hX u, l.at'.past k ?_ ?_, l.ok, l.ma.past k ?_, l.hT, l.hB, l.hm, l.nT, l.nB⟩ <;> simp <;> omega
theorem FN.done0 {w : World} {T B Bm Bt Bv la : Nat} {H : Nat → Nat} {t t' : Tb} {m m' : Mt} {M : Nat → Option Nat} {V : Nat → Nat} {W0 W : World} (h : FN w T B Bm Bt Bv la H t m M V W0) (ls : LS w T B t' Bm m' W) (r : Rows Bt Bv la M V W) {k v : Nat} (rep : RepN H la t' (set M k (some v))) (hk : k < la) :
    FN w T B Bm Bt Bv la H t' m' (set M k (some v)) (fun j => if j = k then v else V j) ((W.setCell ⟨Bt, k, none⟩ (.bool true)).setCell ⟨Bv, k, none⟩ (.int .u64 (v : Nat))) := by
  refine ⟨(ls.store h.ht h.bt _ _).store h.hv h.bv _ _, (r.setT (o := some v) hk).setV hk, rep, fun j u hj => ?_, h.bt, h.bv, h.ht, h.hv⟩
  by_cases e : j = k
  · subst e; rw [set_same] at hj; simpa using hj
  · rw [set_ne _ _ e] at hj
    show (if j = k then v else V j) = u
    rw [if_neg e]; exact h.val j u hj
theorem FN.done1 {w : World} {T B Bm Bt Bv la : Nat} {H : Nat → Nat} {t t' : Tb} {m m' : Mt} {M : Nat → Option Nat} {V : Nat → Nat} {W0 W : World} (h : FN w T B Bm Bt Bv la H t m M V W0) (ls : LS w T B t' Bm m' W) (r : Rows Bt Bv la M V W) {k : Nat} (rep : RepN H la t' (set M k none)) (hk : k < la) :
    FN w T B Bm Bt Bv la H t' m' (set M k none) V (W.setCell ⟨Bt, k, none⟩ (.bool false)) := by
  refine ⟨ls.store h.ht h.bt _ _, r.setT (o := none) hk, rep, fun j u hj => ?_, h.bt, h.bv, h.ht, h.hv⟩
  by_cases e : j = k
  · subst e; rw [set_same] at hj; cases hj
  · rw [set_ne _ _ e] at hj; exact h.val j u hj
/-! ### the count, key by key -/
theorem cntM_succ (k : Nat) (M : Nat → Option Nat) : cntM (k + 1) M = cntM k M + (if (M k).isSome = true then 1 else 0) := by
  unfold cntM
  rw [List.range_succ, List.countP_append, List.countP_singleton]
theorem fldL (a b c : Int) (W : World) : (Instr.field 38 (.agg #[.int .i64 a, .int .i64 b, .int .i64 c]) 0).run Tryz.prog W = .ok (.int .i64 a) W := by kernel_rfl
/-- what a table holds, whatever the meter says -/
def FNx (w : World) (T B Bm Bt Bv la : Nat) (H : Nat → Nat) (t : Tb) (M : Nat → Option Nat) (V : Nat → Nat) (W : World) : Prop := ∃ m, FN w T B Bm Bt Bv la H t m M V W
def Lk (Bm : Nat) (W W' : World) : Prop := ∃ m', LnStep [] (.vi Bm 0) m' W W'
section
variable {a : String → Addr} {w : World} {T B Bm Bt Bv la : Nat} {H : Nat → Nat} {t : Tb} {M : Nat → Option Nat} {V : Nat → Nat} {W W' : World}
theorem FNx.read (h : FNx w T B Bm Bt Bv la H t M V W) (hb : Below W.heap.size W W') : FNx w T B Bm Bt Bv la H t M V W' := by obtain ⟨m, h⟩ := h; exact ⟨m, h.read hb⟩
theorem FNx.drew (h : FNx w T B Bm Bt Bv la H t M V W) : FNx w T B Bm Bt Bv la H t M V W.drew := h.read (under.drew_below W)
theorem FNx.look (h : FNx w T B Bm Bt Bv la H t M V W) (hs : Lk Bm W W') : FNx w T B Bm Bt Bv la H t M V W' := by obtain ⟨m, h⟩ := h; obtain ⟨m', hs⟩ := hs; exact ⟨m', h.lookv hs⟩
theorem FNx.bel (h : FNx w T B Bm Bt Bv la H t M V W) : Below w.heap.size w W := by obtain ⟨m, h⟩ := h; exact h.ls.below
theorem FNx.set (h : FNx w T B Bm Bt Bv la H t M V W) (h' : FNx w T B Bm Bt Bv la H t M V W') {X : Nat} (hX : W.heap.size ≤ X) (i : Nat) (u : Value) : FNx w T B Bm Bt Bv la H t M V (W'.setCell ⟨X, i, none⟩ u) := by
  obtain ⟨m, h⟩ := h
  obtain ⟨m', h'⟩ := h'
  exact ⟨m', h'.newset (Nat.le_trans h.ls.below.size hX) (h.out hX) i u⟩
theorem FNx.set3 (h : FNx w T B Bm Bt Bv la H t M V W) (h' : FNx w T B Bm Bt Bv la H t M V W') {X : Nat} (hX : W.heap.size ≤ X) (k v u : Nat) : FNx w T B Bm Bt Bv la H t M V (set3 X k v u W') :=
  h.set (h.set (h.set h' hX 0 _) hX 1 _) hX 2 _
theorem FNx.lk (h : FNx w T B Bm Bt Bv la H t M V W) {X k v u : Nat} {Wa Wb : World} (hX : W.heap.size ≤ X) (he : EBox X k v u Wa) (hs : Lk Bm Wa Wb) : EBox X k v u Wb := by
  obtain ⟨m, h⟩ := h
  obtain ⟨m', hs⟩ := hs
  have := h.out hX
  exact he.past hs.past (by simp [Ln.d]; simp at this; omega)
theorem FNx.find (hw : Base a w) (h : FNx w T B Bm Bt Bv la H t M V W) (key hs : Nat) (hk : key < 18446744073709551616) (hh : hs < 18446744073709551616) :
    Calls Tryz.prog 60 #[.pointer (some ⟨T, 0, none⟩), .agg #[.pointer (some ⟨Bm, 2, none⟩)], .int .u64 key, .int .u64 hs] W fun e w' => e = .returned (.tuple #[group.entV (entOf t key hs).key (entOf t key hs).val (entOf t key hs).hash, .bool (isThere t key hs)]) ∧ Lk Bm W w' := by
  obtain ⟨m, h⟩ := h
  exact (find_tab (h.ls.vi hw) key hs hk hh).mono fun e w' ⟨he, hs⟩ => ⟨he, _, hs⟩
end
/-! ### numbers -/
theorem see_pl (B o : Nat) (m : Mt) (h : m.pl = 0) : ∀ k, ((Ln.pr B o).see m k).pl ≤ k
  | 0 => by rw [Ln.see_zero, h]; exact Int.le_refl _
  | k + 1 => by
    have h1 := see_pl B o m h k
    rw [Ln.see_succ]
    show sm ((Ln.pr B o).see m k).pl 1 ≤ _
    unfold sm
    have c1 := cl_at ((Ln.pr B o).see m k).pl
    have c2 := cl_at 1
    have c3 := cl_at (cl ((Ln.pr B o).see m k).pl + cl 1)
    omega
theorem left_bounds {t : Tb} (ht : t.Ok) : -1000 ≤ t.left ∧ t.left ≤ 448 := by
  have hn := okN_le ht.n
  have b1 : 0 ≤ t.len := by rw [ht.len]; omega
  have b2 : 0 ≤ t.tombs := by rw [ht.tombs]; omega
  have b3 : t.len ≤ 8 * t.n := by rw [ht.len]; have := cntT_le 3 t; omega
  have b4 : t.tombs ≤ 8 * t.n := by rw [ht.tombs]; have := cntT_le 2 t; omega
  unfold Tb.left; omega
theorem left_remove (t : Tb) (key h : Nat) : (t.remove key h).left ≤ t.left + 1 := by
  unfold Tb.remove; split
  · unfold Tb.era Tb.left; simp only; split <;> omega
  · omega
end Go.Proofs.YteedbnoefnlidaaGreatDoor.table
