/- TableFunction: what lies in memory: the table, the meter, a row of what is there and one of the values. -/
import Derived.Test.YtdplhgpeggcmdaaGreatDoorTabNew
import Derived.Test.YtdplhgpeggcmdaaGreatDoorTabEnt
import Derived.Test.YtdplhgpeggcmdaaGreatDoorTableLeast
import Derived.Laws.MakeOwn
namespace Go.Proofs.YtdplhgpeggcmdaaGreatDoor.table
open Go.ChangeShapes Go.WideShapes Go.ChangeAt Go.RowKit Go.Shelf swar under trap meter group probe lens tail call
attribute [local go_sem] Oper.semAt_some stage.pureUpon move.stepUpon
set_option linter.unusedSimpArgs false
set_option linter.unusedVariables false

/-- two rows of la cells, each in a block of its own -/
structure Rows (Bt Bv la:Nat) (M:Nat → Option Nat) (V:Nat → Nat) (W:World):Prop where
 th:∀ k,k < la → W.cell? ⟨Bt,k,none⟩ = some (.bool (M k).isSome)
 va:∀ k,k < la → W.cell? ⟨Bv,k,none⟩ = some (.int .u64 (V k:Nat))
 ft:∀ i,W.frozen? ⟨Bt,i,none⟩ = false
 fv:∀ i,W.frozen? ⟨Bv,i,none⟩ = false
 ne:Bt ≠ Bv
 lt:Bt < W.heap.size
 lv:Bv < W.heap.size
section
variable {Bt Bv la:Nat} {M:Nat → Option Nat} {V:Nat → Nat} {W W':World}
theorem Rows.of_blocks (h:Rows Bt Bv la M V W) (e1:W'.heap[Bt]? = W.heap[Bt]?) (e2:W'.heap[Bv]? = W.heap[Bv]?) (hz:W.heap.size ≤ W'.heap.size):Rows Bt Bv la M V W':=
 ⟨fun k hk => (World.cell?_of_block (w:=W) e1).trans (h.th k hk),fun k hk => (World.cell?_of_block (w:=W) e2).trans (h.va k hk),fun i => (World.frozen?_of_block (w:=W) e1).trans (h.ft i),fun i => (World.frozen?_of_block (w:=W) e2).trans (h.fv i),h.ne,Nat.lt_of_lt_of_le h.lt hz,Nat.lt_of_lt_of_le h.lv hz⟩
theorem Rows.below (h:Rows Bt Bv la M V W) (hb:Below W.heap.size W W'):Rows Bt Bv la M V W':=h.of_blocks (hb.block _ h.lt) (hb.block _ h.lv) hb.size
theorem Rows.past {d:List Nat} (h:Rows Bt Bv la M V W) (hp:Past d W W') (n1:Bt ∉ d) (n2:Bv ∉ d):Rows Bt Bv la M V W':=h.of_blocks (hp.block _ h.lt n1) (hp.block _ h.lv n2) hp.size
theorem off_k {a i j:Nat} (h:i ≠ j):(⟨a,i,none⟩:Addr) ≠ ⟨a,j,none⟩:=by intro e; injection e with _ e _; exact h e
/-- a value's cell is set -/
theorem Rows.setV (h:Rows Bt Bv la M V W) {k v:Nat} (hk:k < la):Rows Bt Bv la M (fun j => if j = k then v else V j) (W.setCell ⟨Bv,k,none⟩ (.int .u64 (v:Nat))):=by
 refine ⟨fun j hj => ?_,fun j hj => ?_,fun i => by rw [World.frozen?_setCell]; exact h.ft i,fun i => by rw [World.frozen?_setCell]; exact h.fv i,h.ne,by rw [World.size_setCell]; exact h.lt,by rw [World.size_setCell]; exact h.lv⟩
 ·rw [World.cell?_setCell_other _ _ _ _ (off_b (Ne.symm h.ne))]; exact h.th j hj
 ·by_cases e:j = k
  ·subst e
   rw [World.cell?_setCell_same' _ _ _ (by rw [h.va j hj]; rfl),if_pos rfl]
  ·rw [World.cell?_setCell_other _ _ _ _ (off_k (Ne.symm e)),if_neg e]; exact h.va j hj
/-- a key's cell is set -/
theorem Rows.setT (h:Rows Bt Bv la M V W) {k:Nat} {o:Option Nat} (hk:k < la):Rows Bt Bv la (set M k o) V (W.setCell ⟨Bt,k,none⟩ (.bool o.isSome)):=by
 refine ⟨fun j hj => ?_,fun j hj => ?_,fun i => by rw [World.frozen?_setCell]; exact h.ft i,fun i => by rw [World.frozen?_setCell]; exact h.fv i,h.ne,by rw [World.size_setCell]; exact h.lt,by rw [World.size_setCell]; exact h.lv⟩
 ·by_cases e:j = k
  ·subst e
   rw [World.cell?_setCell_same' _ _ _ (by rw [h.th j hj]; rfl),set_same]
  ·rw [World.cell?_setCell_other _ _ _ _ (off_k (Ne.symm e)),set_ne _ _ e]; exact h.th j hj
 ·rw [World.cell?_setCell_other _ _ _ _ (off_b h.ne)]; exact h.va j hj
end
/-- between two acts -/
structure FN (w:World) (T B Bm Bt Bv la:Nat) (H:Nat → Nat) (t:Tb) (m:Mt) (M:Nat → Option Nat) (V:Nat → Nat) (W:World):Prop where
 ls:LS w T B t Bm m W
 rw':Rows Bt Bv la M V W
 rep:RepN H la t M
 val:∀ k v,M k = some v → V k = v
 bt:Bt ∉ [T,B,Bm]
 bv:Bv ∉ [T,B,Bm]
 ht:w.heap.size ≤ Bt
 hv:w.heap.size ≤ Bv
section
variable {a:String → Addr} {w:World} {T B Bm Bt Bv la:Nat} {H:Nat → Nat} {t t':Tb} {m m':Mt} {M M':Nat → Option Nat} {V:Nat → Nat} {W W':World}
end
/-! ### the rows, made -/
theorem infoBool:(Tryz.prog.info? 4).map (fun i => (i.zero,i.size,i.bytes)) = some (some (.bool false),1,1):=by kernel_rfl
theorem infoU64:(Tryz.prog.info? 42).map (fun i => (i.zero,i.size,i.bytes)) = some (some (.int .u64 0),1,8):=by kernel_rfl
theorem mk_bools (n:Nat) (hn:n ≤ 100) (w:World):(Instr.makeSlice 80 (.int .i64 n) (.int .i64 n)).run Tryz.prog w = .ok (.slice (some ⟨w.heap.size,0,none⟩) n n) (w.alloc (.cells (madeCells #[.bool false] n) 4)):=by
 obtain ⟨i,hi,h0,h1,h2⟩:=info_parts infoBool
 have h:=run_make (P:=Tryz.prog) w 80 4 i (.bool false) Tryz.underlying80 hi h0 .i64 .i64 n n (by omega) (by omega) (by rw [h2]; omega) (by omega)
 rw [h1] at h
 simpa [Value.cells] using h
theorem mk_u64s (n:Nat) (hn:n ≤ 100) (w:World):(Instr.makeSlice 22 (.int .i64 n) (.int .i64 n)).run Tryz.prog w = .ok (.slice (some ⟨w.heap.size,0,none⟩) n n) (w.alloc (.cells (madeCells #[.int .u64 0] n) 42)):=by
 obtain ⟨i,hi,h0,h1,h2⟩:=info_parts infoU64
 have h:=run_make (P:=Tryz.prog) w 22 42 i (.int .u64 0) Tryz.underlying22 hi h0 .i64 .i64 n n (by omega) (by omega) (by rw [h2]; omega) (by omega)
 rw [h1] at h
 simpa [Value.cells] using h
theorem made_at (v:Value) (n k:Nat) (hk:k < n):(madeCells #[v] n)[k]? = some v:=by
 unfold madeCells
 rw [Array.getElem?_map,Array.getElem?_eq_getElem (by simpa using hk)]
 simp [Nat.mod_one]
theorem made_cell (w:World) (v:Value) (n:Nat) (ty:TypeId) (k:Nat) (hk:k < n):(w.alloc (.cells (madeCells #[v] n) ty)).cell? ⟨w.heap.size,k,none⟩ = some v:=by
 rw [cell_of_row _ _ _ _ _ _ (World.alloc_heap_new w _)]; exact made_at v n k hk
theorem made_frozen (w:World) (v:Value) (n:Nat) (ty:TypeId) (i:Nat):(w.alloc (.cells (madeCells #[v] n) ty)).frozen? ⟨w.heap.size,i,none⟩ = false:=frozen_of_row _ _ i _ _ (World.alloc_heap_new w _)
theorem Rows.new1 (w:World) (la:Nat):Rows w.heap.size (w.heap.size + 1) la (fun _ => none) (fun _ => 0) ((w.alloc (.cells (madeCells #[.bool false] la) 4)).alloc (.cells (madeCells #[.int .u64 0] la) 42)):=by
 have b:=new_block (w.alloc (.cells (madeCells #[.bool false] la) 4)) (.cells (madeCells #[.int .u64 0] la) 42)
 have hz:=World.size_alloc w (.cells (madeCells #[.bool false] la) 4)
 have e:=b.block w.heap.size (by omega)
 have c:=made_cell (w.alloc (.cells (madeCells #[.bool false] la) 4)) (.int .u64 0) la 42
 have f:=made_frozen (w.alloc (.cells (madeCells #[.bool false] la) 4)) (.int .u64 0) la 42
 rw [hz] at c f
 exact ⟨fun k hk => (World.cell?_of_block e).trans (made_cell w _ la _ k hk),c,fun i => (World.frozen?_of_block e).trans (made_frozen w _ la _ i),f,by omega,by simp; omega,by simp⟩
theorem Rows.new2 (w:World) (la:Nat):Rows (w.heap.size + 1) w.heap.size la (fun _ => none) (fun _ => 0) ((w.alloc (.cells (madeCells #[.int .u64 0] la) 42)).alloc (.cells (madeCells #[.bool false] la) 4)):=by
 have b:=new_block (w.alloc (.cells (madeCells #[.int .u64 0] la) 42)) (.cells (madeCells #[.bool false] la) 4)
 have hz:=World.size_alloc w (.cells (madeCells #[.int .u64 0] la) 42)
 have e:=b.block w.heap.size (by omega)
 have c:=made_cell (w.alloc (.cells (madeCells #[.int .u64 0] la) 42)) (.bool false) la 4
 have f:=made_frozen (w.alloc (.cells (madeCells #[.int .u64 0] la) 42)) (.bool false) la 4
 rw [hz] at c f
 exact ⟨c,fun k hk => (World.cell?_of_block e).trans (made_cell w _ la _ k hk),f,fun i => (World.frozen?_of_block e).trans (made_frozen w _ la _ i),by omega,by simp,by simp; omega⟩
/-! ### acts -/
/-! ### the count, key by key -/
/-- what a table holds, whatever the meter says -/
def FNx (w:World) (T B Bm Bt Bv la:Nat) (H:Nat → Nat) (t:Tb) (M:Nat → Option Nat) (V:Nat → Nat) (W:World):Prop:=∃ m,FN w T B Bm Bt Bv la H t m M V W
def Lk (Bm:Nat) (W W':World):Prop:=∃ m',LnStep [] (.vi Bm 0) m' W W'
section
variable {a:String → Addr} {w:World} {T B Bm Bt Bv la:Nat} {H:Nat → Nat} {t:Tb} {M:Nat → Option Nat} {V:Nat → Nat} {W W':World}
end
/-! ### numbers -/
end Go.Proofs.YtdplhgpeggcmdaaGreatDoor.table
