/- group: the entries of the document's group; two lists of entries that are the same (amblernum.SameEntries). -/
import Derived.Test.YtgpfhgkphadgkaaDoorGroupRef
namespace Go.Proofs.YtgpfhgkphadgkaaDoor.group
open Go.ChangeShapes Go.WideShapes Go.ChangeAt Go.RowKit Go.Shelf swar trap under meter tail
set_option linter.unusedSimpArgs false
set_option linter.unusedVariables false

/-- an entry's cells behind an address -/
def ECells (x : Addr) (j : Nat) (e : Sl) (W : World) : Prop :=
  W.cell? (x.add (j * 3)) = some (.int .u64 (e.key : Nat)) ∧ W.cell? ⟨(x.add (j * 3)).block, (x.add (j * 3)).off + 1, none⟩ = some (.int .u64 (e.val : Nat)) ∧ W.cell? ⟨(x.add (j * 3)).block, (x.add (j * 3)).off + 2, none⟩ = some (.int .u64 (e.hash : Nat))
theorem ECells.read {x : Addr} {j : Nat} {e : Sl} {W W' : World} (h : ECells x j e W) (hb : Below W.heap.size W W') : ECells x j e W' :=
  have c : ∀ {p v}, W.cell? p = some v → W'.cell? p = some v := fun {p v} hc => (hb.cell (World.block_lt_of_cell? W p hc)).trans hc
  ⟨c h.1, c h.2.1, c h.2.2⟩
/-- a slice holds so many entries -/
def RowsAt (o : Option Addr) (f : Nat → Sl) (n : Nat) (W : World) : Prop := ∀ j, j < n → ∃ x, o = some x ∧ ECells x j (f j) W
theorem RowsAt.read {o : Option Addr} {f : Nat → Sl} {n : Nat} {W W' : World} (h : RowsAt o f n W) (hb : Below W.heap.size W W') : RowsAt o f n W' := fun j hj => by
  obtain ⟨x, e, hc⟩ := h j hj; exact ⟨x, e, hc.read hb⟩
theorem Kept.rows {base : Nat} {W : World} {v : Value} {g : Gp} {l : List Nat} (h : Kept base W v g l) : ∃ o c, v = .slice o l.length c ∧ RowsAt o (fun j => g (l.getD j 0)) l.length W := by
  obtain ⟨hl, h⟩ := h
  rcases h with ⟨rfl, hn⟩ | ⟨B, c, cur, rfl, _, hB, hn, _, hs, ht⟩
  · exact ⟨none, 0, by rw [hn], fun j hj => by omega⟩
  · refine ⟨_, _, rfl, fun j hj => ⟨_, rfl, ?_⟩⟩
    have hadd : (⟨B, 0, none⟩ : Addr).add (j * 3) = ⟨B, j * 3, none⟩ := by unfold Addr.add; split <;> simp_all
    have hc : ∀ d, d < 3 → W.cell? ⟨B, j * 3 + d, none⟩ = (ent (g (l.getD j 0)))[d]? := fun d hd => by
      rw [cell_of_row _ _ _ _ _ _ hB]
      have h1 := rows_at g l j d hj hd
      rw [List.getD_eq_getElem?_getD, List.getElem?_eq_getElem hj, Option.getD_some]
      rw [← h1, ← ht, List.getElem?_take, if_pos (by omega)]
      simp
    unfold ECells
    rw [hadd]
    exact ⟨hc 0 (by decide), hc 1 (by decide), hc 2 (by decide)⟩
theorem same_any (o1 o2 : Option Addr) (c1 c2 n : Nat) (f : Nat → Sl) (hn : n ≤ 8) (w : World) (h1 : RowsAt o1 f n w) (h2 : RowsAt o2 f n w) :
    Calls Tryd.prog 30 #[.slice o1 n c1, .slice o2 n c2] w fun e w' => e = .returned (.bool true) ∧ Below w.heap.size w w' := by
  have H1 := Lib.hid h1
  have H2 := Lib.hid h2
  clear h1 h2
  go_enter Tryd.func30, Tryd.ntmps30
  go_wp2
  go_loopw [14] (fun i wr => ∃ k : Nat, k ≤ n ∧ i = .int .i64 k ∧ Hid (Below w.heap.size w wr)) (fun i _ => n - (intOf i).toNat)
  case atStart => exact ⟨0, by omega, rfl, Lib.hid (Below.refl _ _)⟩
  case round =>
    obtain ⟨k, hk, rfl, HR⟩ := hrel
    rcases Nat.lt_or_ge k n with h8 | h8
    · have hki : (k : Int) < (n : Int) := by omega
      have hk8 : (k : Int) < 8 := by omega
      obtain ⟨x1, rfl, d⟩ := H1.out k h8
      obtain ⟨x2, rfl, c⟩ := H2.out k h8
      obtain ⟨d0, d1, d2⟩ := d.read HR.out
      obtain ⟨e0, e1, e2⟩ := c.read HR.out
      clear c d
      generalize f k = s at d0 d1 d2 e0 e1 e2
      have z1 := World.block_lt_of_cell? wr _ d0
      have z2 := World.block_lt_of_cell? wr _ e0
      go_wp2
      go_quiet (fail)
      go_wp2
      go_roundw
      case rel => exact ⟨k + 1, by omega, by simp, Lib.hid (under.below_step HR.out (bdrewN (new_block wr _) _))⟩
      case measure => simp [intOf]; omega
    · obtain rfl : k = n := by omega
      go_wp2
      go_ret
      exact ⟨rfl, HR.out⟩
theorem fulls_succ (g : Gp) (k : Nat) : (List.range (k + 1)).filter (is 3 g) = (List.range k).filter (is 3 g) ++ if is 3 g k = true then [k] else [] := by
  rw [List.range_succ, List.filter_append]; simp [List.filter]; split <;> simp_all
theorem fulls_range (g : Gp) : (List.range 8).filter (is 3 g) = fulls g := rfl
theorem range_len (g : Gp) (k : Nat) : ((List.range k).filter (is 3 g)).length ≤ k := by have := List.length_filter_le (is 3 g) (List.range k); simpa using this
set_option maxRecDepth 100000 in
set_option maxHeartbeats 1000000 in
theorem rentries_any (R : Nat) (g : Gp) (w : World) (ha : RAt R g w) :
    Calls Tryd.prog 32 #[.pointer (some ⟨R, 0, none⟩)] w fun e w' => ∃ v, e = .returned v ∧ Kept w.heap.size w' v g (fulls g) ∧ Below w.heap.size w w' := by
  obtain ⟨i0, hi0, hq0, hq1, hq2⟩ := info_parts infoEnt
  have hb0 := new_block w (.cells #[] 35)
  have HA := Lib.hid (ha.below hb0)
  have HK : Hid (Kept w.heap.size (w.alloc (.cells #[] 35)) (.slice (some ⟨w.heap.size, 0, none⟩) 0 0) g []) := Lib.hid (World.ownsRow_lit w #[] 0 (Nat.le_refl _) (by decide) rfl)
  clear ha
  go_enter Tryd.func32, Tryd.ntmps32
  go_wp2_with (refine wpList_load_row (by rfl) 60 _ (by rfl) _ (by rfl) _ _ _ (.array 8 59) HA.out.row (by kernel_rfl) (by rfl) (info32 g) ?_)
  go_loopw [11, 3] (fun i v wr => ∃ k : Nat, k ≤ 8 ∧ i = .int .i64 k ∧ Hid (Kept w.heap.size wr v g ((List.range k).filter (is 3 g)) ∧ Below w.heap.size w wr)) (fun i _ _ => 8 - (intOf i).toNat)
  case atStart => exact ⟨0, by omega, rfl, Lib.hid ⟨HK.out, hb0⟩⟩
  case round =>
    obtain ⟨k, hk, rfl, HR⟩ := hrel
    rcases Nat.lt_or_ge k 8 with h8 | h8
    · have hki : (k : Int) < 8 := by omega
      have hi := index_cel g h8
      have hn := kd3 g k
      have hr := HR.out.1
      have hs := fulls_succ g k
      have hl := range_len g k
      have hz := HR.out.2.size
      have he : ent (g k) = [.int .u64 ((g k).key : Nat), .int .u64 ((g k).val : Nat), .int .u64 ((g k).hash : Nat)] := rfl
      have hrs := rows_snoc g ((List.range k).filter (is 3 g)) k
      rw [he] at hrs
      unfold Kept at hr
      unfold cel at hi
      have HS := Lib.hid hs
      have HRS := Lib.hid hrs
      clear hs hrs he
      generalize hkd : (g k).kind = kd at hi hn
      generalize hky : (g k).key = ky at hi HRS
      generalize hvl : (g k).val = vl at hi HRS
      generalize hhs : (g k).hash = hs at hi HRS
      clear hkd hky hvl hhs
      cases hb : is 3 g k
      · rw [hb] at hn HS
        clear hb hr
        go_wp2
        go_roundw
        case rel =>
          refine ⟨k + 1, by omega, by simp, Lib.hid ⟨?_, under.below_step HR.out.2 (new_block wr _)⟩⟩
          rw [HS.out]
          have h := HR.out.1
          unfold Kept at h ⊢
          simpa using h.alloc _
        case measure => simp [intOf]; omega
      · rw [hb] at hn HS
        clear hb
        have hr5 := hr.alloc (.cells #[.int .i64 (kd : Nat), .int .u64 (ky : Nat), .int .u64 (vl : Nat), .int .u64 (hs : Nat)] 59)
        have hn5 := cell_three_new (wr.alloc (.cells #[.int .i64 (kd : Nat), .int .u64 (ky : Nat), .int .u64 (vl : Nat), .int .u64 (hs : Nat)] 59)) (.int .u64 (ky : Nat)) (.int .u64 (vl : Nat)) (.int .u64 (hs : Nat)) 35
        have hz5 : (wr.alloc (.cells #[.int .i64 (kd : Nat), .int .u64 (ky : Nat), .int .u64 (vl : Nat), .int .u64 (hs : Nat)] 59)).heap.size = wr.heap.size + 1 := World.size_alloc _ _
        rw [hz5] at hn5
        have hb5 := under.below_step HR.out.2 (new_block wr (.cells #[.int .i64 (kd : Nat), .int .u64 (ky : Nat), .int .u64 (vl : Nat), .int .u64 (hs : Nat)] 59))
        have HN := Lib.hid hn5
        have HB5 := Lib.hid hb5
        have H5 := Lib.hid hr5
        have H0 := Lib.hid hr
        clear hn5 hr5 hz5 hr hb5
        go_wp2_with (at_builtin; refine wpList_append_own _ rfl _ _ 68 rfl w.heap.size 35 i0 (.agg #[.int .u64 0, .int .u64 0, .int .u64 0]) 3 24 Tryd.underlying68 hi0 hq0 hq1 hq2 rfl (by decide) _ _ _ rfl (H5.out.alloc _) ⟨wr.heap.size + 1, 0, none⟩ 1 1 [.int .u64 (ky : Nat), .int .u64 (vl : Nat), .int .u64 (hs : Nat)] rfl rfl HN.out (by simp [Value.oneCell']) (by simp only [maxLen]; omega) (by omega) (by simp; omega) ?_; intro v' w1 hown' hgrow _; have HO := Lib.hid hown'; have HG := Lib.hid hgrow; clear hown' hgrow)
        go_roundw
        case rel =>
          refine ⟨k + 1, by omega, by simp, Lib.hid ⟨?_, ?_⟩⟩
          · rw [HS.out]
            unfold Kept
            simp only [if_true]
            rw [HRS.out, List.length_append]
            exact HO.out
          · have hb6 := under.below_step HB5.out (new_block _ (.cells #[.int .u64 (ky : Nat), .int .u64 (vl : Nat), .int .u64 (hs : Nat)] 35))
            exact hb6.grown HG.out hb6.size fun j e => (H0.out.lt j e).1
        case measure => simp [intOf]; omega
    · obtain rfl : k = 8 := by omega
      go_wp2
      go_ret
      exact ⟨_, rfl, HR.out.1, HR.out.2⟩
end Go.Proofs.YtgpfhgkphadgkaaDoor.group
