/- SwarMasks: the list of the lanes that are in, and two lists compared. -/
import Derived.Test.YthmkmnjhbnfioaaDoorSwarRef
namespace Go.Proofs.YthmkmnjhbnfioaaDoor.swar
open Go.ChangeShapes Go.WideShapes Go.ChangeAt Go.RowKit Go.Shelf

/-- the marks as a function; the list of those marked, as far as k -/
def sel (p0 p1 p2 p3 p4 p5 p6 p7 : Bool) (i : Nat) : Bool := [p0, p1, p2, p3, p4, p5, p6, p7].getD i false
def lst (p0 p1 p2 p3 p4 p5 p6 p7 : Bool) (k : Nat) : List Nat := (List.range k).filter (sel p0 p1 p2 p3 p4 p5 p6 p7)
theorem lst_0 (p0 p1 p2 p3 p4 p5 p6 p7 : Bool) : lst p0 p1 p2 p3 p4 p5 p6 p7 0 = [] := rfl
theorem lst_len (p0 p1 p2 p3 p4 p5 p6 p7 : Bool) (k : Nat) : (lst p0 p1 p2 p3 p4 p5 p6 p7 k).length ≤ k := by
  have h := List.length_filter_le (sel p0 p1 p2 p3 p4 p5 p6 p7) (List.range k)
  simpa [lst] using h
theorem lst_yes (p0 p1 p2 p3 p4 p5 p6 p7 : Bool) (k : Nat) (h : sel p0 p1 p2 p3 p4 p5 p6 p7 k = true) : lst p0 p1 p2 p3 p4 p5 p6 p7 (k + 1) = lst p0 p1 p2 p3 p4 p5 p6 p7 k ++ [k] := by
  simp [lst, List.range_succ, h]
theorem lst_no (p0 p1 p2 p3 p4 p5 p6 p7 : Bool) (k : Nat) (h : sel p0 p1 p2 p3 p4 p5 p6 p7 k = false) : lst p0 p1 p2 p3 p4 p5 p6 p7 (k + 1) = lst p0 p1 p2 p3 p4 p5 p6 p7 k := by
  simp [lst, List.range_succ, h]
def enc (k : Nat) : Value := .int .i64 (k : Nat)
/-- a slice of the call's own that holds a list of numbers -/
def Holds (base : Nat) (W : World) (v : Value) (l : List Nat) : Prop := W.ownsRow base 3 1 v l.length (l.map enc) ∧ ∃ g c, v = .slice (some ⟨g, 0, none⟩) l.length c
def ListPost (l : List Nat) (w : World) (e : Ending) (w' : World) : Prop := ∃ v, e = .returned v ∧ Holds w.heap.size w' v l ∧ Below w.heap.size w w'
theorem Holds.base {base : Nat} {W : World} {v : Value} {l : List Nat} (h : Holds base W v l) : ∀ r, v.ownBlock = some r → base ≤ r := by
  obtain ⟨⟨_, h⟩, g, c, rfl⟩ := h
  intro r hr
  simp only [Value.ownBlock, Option.some.injEq] at hr
  subst hr
  rcases h with ⟨h, _⟩ | ⟨g', c', cur, h, hb, _⟩
  · cases h
  · cases h; exact hb
theorem Holds.snoc {base : Nat} {W' : World} {v' : Value} {l : List Nat} {k : Nat} (h : W'.ownsRow base 3 1 v' (l.length + 1) (l.map enc ++ [.int .i64 (k : Nat)])) : Holds base W' v' (l ++ [k]) := by
  obtain ⟨g, c, hv⟩ := ownsRow_succ h
  refine ⟨?_, g, c, by simpa using hv⟩
  rw [List.length_append, List.map_append]
  exact h
theorem infoInt : (Tryd.prog.info? 3).map (fun i => (i.zero, i.size, i.bytes)) = some (some (.int .i64 0), 1, 8) := by kernel_rfl
set_option maxHeartbeats 2000000 in
theorem ref_list (p0 p1 p2 p3 p4 p5 p6 p7 : Bool) (w : World) :
    Calls Tryd.prog 15 #[bagg8 p0 p1 p2 p3 p4 p5 p6 p7] w (ListPost (lst p0 p1 p2 p3 p4 p5 p6 p7 8) w) := by
  obtain ⟨i0, hi, hz0, hz1, hz2⟩ := info_parts infoInt
  unfold bagg8
  have i0' := fun wx => (idx8b (.bool p0) (.bool p1) (.bool p2) (.bool p3) (.bool p4) (.bool p5) (.bool p6) (.bool p7) wx).1
  have i1' := fun wx => (idx8b (.bool p0) (.bool p1) (.bool p2) (.bool p3) (.bool p4) (.bool p5) (.bool p6) (.bool p7) wx).2.1
  have i2' := fun wx => (idx8b (.bool p0) (.bool p1) (.bool p2) (.bool p3) (.bool p4) (.bool p5) (.bool p6) (.bool p7) wx).2.2.1
  have i3' := fun wx => (idx8b (.bool p0) (.bool p1) (.bool p2) (.bool p3) (.bool p4) (.bool p5) (.bool p6) (.bool p7) wx).2.2.2.1
  have i4' := fun wx => (idx8b (.bool p0) (.bool p1) (.bool p2) (.bool p3) (.bool p4) (.bool p5) (.bool p6) (.bool p7) wx).2.2.2.2.1
  have i5' := fun wx => (idx8b (.bool p0) (.bool p1) (.bool p2) (.bool p3) (.bool p4) (.bool p5) (.bool p6) (.bool p7) wx).2.2.2.2.2.1
  have i6' := fun wx => (idx8b (.bool p0) (.bool p1) (.bool p2) (.bool p3) (.bool p4) (.bool p5) (.bool p6) (.bool p7) wx).2.2.2.2.2.2.1
  have i7' := fun wx => (idx8b (.bool p0) (.bool p1) (.bool p2) (.bool p3) (.bool p4) (.bool p5) (.bool p6) (.bool p7) wx).2.2.2.2.2.2.2
  go_enter Tryd.func15, Tryd.ntmps15
  go_wp2
  go_loopw [3, 8] (fun v i wr => ∃ k : Nat, k ≤ 8 ∧ i = .int .i64 k ∧ Holds w.heap.size wr v (lst p0 p1 p2 p3 p4 p5 p6 p7 k) ∧ Below w.heap.size w wr)
    (fun _ i _ => 8 - (intOf i).toNat)
  case atStart =>
    refine ⟨0, by omega, rfl, ?_, ((Below.refl _ w).alloc (Nat.le_refl _) _).alloc (by simp) _⟩
    rw [lst_0]
    refine ⟨⟨rfl, .inr ⟨w.heap.size + 1, 0, #[], rfl, by omega, ?_, Nat.le_refl _, Nat.zero_le _, rfl, rfl⟩⟩, w.heap.size + 1, 0, rfl⟩
    have h := World.alloc_heap_new (w.alloc (.cells #[.bool p0, .bool p1, .bool p2, .bool p3, .bool p4, .bool p5, .bool p6, .bool p7] 32)) (.cells #[] 3)
    rwa [World.size_alloc] at h
  case round =>
    obtain ⟨k, hk, rfl, hH, hB⟩ := hrel
    have hll := lst_len p0 p1 p2 p3 p4 p5 p6 p7 k
    have HH := Lib.hid hH
    have hrow := Lib.hid hH.1
    have hbase := Lib.hid hH.base
    have HL := Lib.hid hll
    clear hH hll
    rcases cases9 hk with rfl | rfl | rfl | rfl | rfl | rfl | rfl | rfl | rfl
    · cases p0
      · go_wp2
        go_roundw
        case rel => exact ⟨1, by omega, rfl, by rw [lst_no _ _ _ _ _ _ _ _ 0 rfl]; exact HH.out, hB⟩
        case measure => simp [intOf]
      · go_wp2_with (at_builtin; refine wpList_append_own _ rfl _ _ 34 rfl w.heap.size 3 i0 (.int .i64 0) 1 8 Tryd.underlying34 hi hz0 hz1 hz2 rfl (by decide) _ _ _ rfl (hrow.out.alloc _) ⟨wr.heap.size, 0, none⟩ 1 1 [.int .i64 0] rfl rfl (cell_one_new _ _ _) (by simp [Value.oneCell']) (by have := HL.out; simp only [maxLen]; omega) (by have := HL.out; omega) (by have := hB.size; simp; omega) ?_; intro v' w1 hown' hgrow _)
        have hB1 : Below w.heap.size w w1 := (hB.alloc hB.size _).grown hgrow (by have := hB.size; simp; omega) (fun r e => hbase.out r e)
        have HS := Lib.hid (Holds.snoc (k := 0) hown')
        clear hown' hgrow
        go_wp2
        go_roundw
        case rel => exact ⟨1, by omega, rfl, by rw [lst_yes _ _ _ _ _ _ _ _ 0 rfl]; exact HS.out, hB1⟩
        case measure => simp [intOf]
    · cases p1
      · go_wp2
        go_roundw
        case rel => exact ⟨2, by omega, rfl, by rw [lst_no _ _ _ _ _ _ _ _ 1 rfl]; exact HH.out, hB⟩
        case measure => simp [intOf]
      · go_wp2_with (at_builtin; refine wpList_append_own _ rfl _ _ 34 rfl w.heap.size 3 i0 (.int .i64 0) 1 8 Tryd.underlying34 hi hz0 hz1 hz2 rfl (by decide) _ _ _ rfl (hrow.out.alloc _) ⟨wr.heap.size, 0, none⟩ 1 1 [.int .i64 1] rfl rfl (cell_one_new _ _ _) (by simp [Value.oneCell']) (by have := HL.out; simp only [maxLen]; omega) (by have := HL.out; omega) (by have := hB.size; simp; omega) ?_; intro v' w1 hown' hgrow _)
        have hB1 : Below w.heap.size w w1 := (hB.alloc hB.size _).grown hgrow (by have := hB.size; simp; omega) (fun r e => hbase.out r e)
        have HS := Lib.hid (Holds.snoc (k := 1) hown')
        clear hown' hgrow
        go_wp2
        go_roundw
        case rel => exact ⟨2, by omega, rfl, by rw [lst_yes _ _ _ _ _ _ _ _ 1 rfl]; exact HS.out, hB1⟩
        case measure => simp [intOf]
    · cases p2
      · go_wp2
        go_roundw
        case rel => exact ⟨3, by omega, rfl, by rw [lst_no _ _ _ _ _ _ _ _ 2 rfl]; exact HH.out, hB⟩
        case measure => simp [intOf]
      · go_wp2_with (at_builtin; refine wpList_append_own _ rfl _ _ 34 rfl w.heap.size 3 i0 (.int .i64 0) 1 8 Tryd.underlying34 hi hz0 hz1 hz2 rfl (by decide) _ _ _ rfl (hrow.out.alloc _) ⟨wr.heap.size, 0, none⟩ 1 1 [.int .i64 2] rfl rfl (cell_one_new _ _ _) (by simp [Value.oneCell']) (by have := HL.out; simp only [maxLen]; omega) (by have := HL.out; omega) (by have := hB.size; simp; omega) ?_; intro v' w1 hown' hgrow _)
        have hB1 : Below w.heap.size w w1 := (hB.alloc hB.size _).grown hgrow (by have := hB.size; simp; omega) (fun r e => hbase.out r e)
        have HS := Lib.hid (Holds.snoc (k := 2) hown')
        clear hown' hgrow
        go_wp2
        go_roundw
        case rel => exact ⟨3, by omega, rfl, by rw [lst_yes _ _ _ _ _ _ _ _ 2 rfl]; exact HS.out, hB1⟩
        case measure => simp [intOf]
    · cases p3
      · go_wp2
        go_roundw
        case rel => exact ⟨4, by omega, rfl, by rw [lst_no _ _ _ _ _ _ _ _ 3 rfl]; exact HH.out, hB⟩
        case measure => simp [intOf]
      · go_wp2_with (at_builtin; refine wpList_append_own _ rfl _ _ 34 rfl w.heap.size 3 i0 (.int .i64 0) 1 8 Tryd.underlying34 hi hz0 hz1 hz2 rfl (by decide) _ _ _ rfl (hrow.out.alloc _) ⟨wr.heap.size, 0, none⟩ 1 1 [.int .i64 3] rfl rfl (cell_one_new _ _ _) (by simp [Value.oneCell']) (by have := HL.out; simp only [maxLen]; omega) (by have := HL.out; omega) (by have := hB.size; simp; omega) ?_; intro v' w1 hown' hgrow _)
        have hB1 : Below w.heap.size w w1 := (hB.alloc hB.size _).grown hgrow (by have := hB.size; simp; omega) (fun r e => hbase.out r e)
        have HS := Lib.hid (Holds.snoc (k := 3) hown')
        clear hown' hgrow
        go_wp2
        go_roundw
        case rel => exact ⟨4, by omega, rfl, by rw [lst_yes _ _ _ _ _ _ _ _ 3 rfl]; exact HS.out, hB1⟩
        case measure => simp [intOf]
    · cases p4
      · go_wp2
        go_roundw
        case rel => exact ⟨5, by omega, rfl, by rw [lst_no _ _ _ _ _ _ _ _ 4 rfl]; exact HH.out, hB⟩
        case measure => simp [intOf]
      · go_wp2_with (at_builtin; refine wpList_append_own _ rfl _ _ 34 rfl w.heap.size 3 i0 (.int .i64 0) 1 8 Tryd.underlying34 hi hz0 hz1 hz2 rfl (by decide) _ _ _ rfl (hrow.out.alloc _) ⟨wr.heap.size, 0, none⟩ 1 1 [.int .i64 4] rfl rfl (cell_one_new _ _ _) (by simp [Value.oneCell']) (by have := HL.out; simp only [maxLen]; omega) (by have := HL.out; omega) (by have := hB.size; simp; omega) ?_; intro v' w1 hown' hgrow _)
        have hB1 : Below w.heap.size w w1 := (hB.alloc hB.size _).grown hgrow (by have := hB.size; simp; omega) (fun r e => hbase.out r e)
        have HS := Lib.hid (Holds.snoc (k := 4) hown')
        clear hown' hgrow
        go_wp2
        go_roundw
        case rel => exact ⟨5, by omega, rfl, by rw [lst_yes _ _ _ _ _ _ _ _ 4 rfl]; exact HS.out, hB1⟩
        case measure => simp [intOf]
    · cases p5
      · go_wp2
        go_roundw
        case rel => exact ⟨6, by omega, rfl, by rw [lst_no _ _ _ _ _ _ _ _ 5 rfl]; exact HH.out, hB⟩
        case measure => simp [intOf]
      · go_wp2_with (at_builtin; refine wpList_append_own _ rfl _ _ 34 rfl w.heap.size 3 i0 (.int .i64 0) 1 8 Tryd.underlying34 hi hz0 hz1 hz2 rfl (by decide) _ _ _ rfl (hrow.out.alloc _) ⟨wr.heap.size, 0, none⟩ 1 1 [.int .i64 5] rfl rfl (cell_one_new _ _ _) (by simp [Value.oneCell']) (by have := HL.out; simp only [maxLen]; omega) (by have := HL.out; omega) (by have := hB.size; simp; omega) ?_; intro v' w1 hown' hgrow _)
        have hB1 : Below w.heap.size w w1 := (hB.alloc hB.size _).grown hgrow (by have := hB.size; simp; omega) (fun r e => hbase.out r e)
        have HS := Lib.hid (Holds.snoc (k := 5) hown')
        clear hown' hgrow
        go_wp2
        go_roundw
        case rel => exact ⟨6, by omega, rfl, by rw [lst_yes _ _ _ _ _ _ _ _ 5 rfl]; exact HS.out, hB1⟩
        case measure => simp [intOf]
    · cases p6
      · go_wp2
        go_roundw
        case rel => exact ⟨7, by omega, rfl, by rw [lst_no _ _ _ _ _ _ _ _ 6 rfl]; exact HH.out, hB⟩
        case measure => simp [intOf]
      · go_wp2_with (at_builtin; refine wpList_append_own _ rfl _ _ 34 rfl w.heap.size 3 i0 (.int .i64 0) 1 8 Tryd.underlying34 hi hz0 hz1 hz2 rfl (by decide) _ _ _ rfl (hrow.out.alloc _) ⟨wr.heap.size, 0, none⟩ 1 1 [.int .i64 6] rfl rfl (cell_one_new _ _ _) (by simp [Value.oneCell']) (by have := HL.out; simp only [maxLen]; omega) (by have := HL.out; omega) (by have := hB.size; simp; omega) ?_; intro v' w1 hown' hgrow _)
        have hB1 : Below w.heap.size w w1 := (hB.alloc hB.size _).grown hgrow (by have := hB.size; simp; omega) (fun r e => hbase.out r e)
        have HS := Lib.hid (Holds.snoc (k := 6) hown')
        clear hown' hgrow
        go_wp2
        go_roundw
        case rel => exact ⟨7, by omega, rfl, by rw [lst_yes _ _ _ _ _ _ _ _ 6 rfl]; exact HS.out, hB1⟩
        case measure => simp [intOf]
    · cases p7
      · go_wp2
        go_roundw
        case rel => exact ⟨8, by omega, rfl, by rw [lst_no _ _ _ _ _ _ _ _ 7 rfl]; exact HH.out, hB⟩
        case measure => simp [intOf]
      · go_wp2_with (at_builtin; refine wpList_append_own _ rfl _ _ 34 rfl w.heap.size 3 i0 (.int .i64 0) 1 8 Tryd.underlying34 hi hz0 hz1 hz2 rfl (by decide) _ _ _ rfl (hrow.out.alloc _) ⟨wr.heap.size, 0, none⟩ 1 1 [.int .i64 7] rfl rfl (cell_one_new _ _ _) (by simp [Value.oneCell']) (by have := HL.out; simp only [maxLen]; omega) (by have := HL.out; omega) (by have := hB.size; simp; omega) ?_; intro v' w1 hown' hgrow _)
        have hB1 : Below w.heap.size w w1 := (hB.alloc hB.size _).grown hgrow (by have := hB.size; simp; omega) (fun r e => hbase.out r e)
        have HS := Lib.hid (Holds.snoc (k := 7) hown')
        clear hown' hgrow
        go_wp2
        go_roundw
        case rel => exact ⟨8, by omega, rfl, by rw [lst_yes _ _ _ _ _ _ _ _ 7 rfl]; exact HS.out, hB1⟩
        case measure => simp [intOf]
    · go_wp2
      go_ret
      exact ⟨_, rfl, HH.out, hB⟩
end Go.Proofs.YthmkmnjhbnfioaaDoor.swar
