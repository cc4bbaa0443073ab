/- sound: the document's table: its shape and its paths (amblerref10). -/
import Derived.Test.YtpllkopllhldcaaGreatDoorSoundC
import Derived.LoopTactic
namespace Go.Proofs.YtpllkopllhldcaaGreatDoor.sound
open Go.ChangeShapes Go.WideShapes Go.ChangeAt Go.RowKit Go.Shelf swar under trap meter group probe lens tail call table
attribute [local go_sem] Oper.semAt_some stage.pureUpon move.stepUpon
set_option linter.unusedSimpArgs false
set_option linter.unusedVariables false

def slN : Sl := ⟨1, 0, 0, 0⟩
theorem rows_at6 : ∀ (l : List Sl) (j d : Nat) (hj : j < l.length), d < 3 → (rowsS l)[j * 3 + d]? = (ent (l.getD j slN))[d]?
  | s :: l, 0, d, _, hd => by
    have h : rowsS (s :: l) = ent s ++ rowsS l := by simp [rowsS]
    rw [h, Nat.zero_mul, Nat.zero_add, List.getElem?_append_left (by simp [ent]; omega)]; rfl
  | s :: l, j + 1, d, hj, hd => by
    have h : rowsS (s :: l) = ent s ++ rowsS l := by simp [rowsS]
    rw [h, List.getElem?_append_right (by simp [ent]; omega)]
    have e : (j + 1) * 3 + d - (ent s).length = j * 3 + d := by simp [ent]; omega
    rw [e]
    exact rows_at6 l j d (by simpa using hj) hd
theorem keptE_rows {base : Nat} {W : World} {v : Value} {l : List Sl} (h : KeptE base W v l) : ∃ o c, v = .slice o l.length c ∧ RowsAt o (fun j => l.getD j slN) l.length W := by
  have hc := fun {g : Nat} (hg : v.ownBlock = some g) => World.ownsRow.cells (w := W) h hg
  obtain ⟨hl, h⟩ := h
  rcases h with ⟨rfl, hn⟩ | ⟨B, c, cur, rfl, _, hB, hn, _, hs, ht⟩
  · exact ⟨none, 0, by rw [hn], fun j hj => by omega⟩
  · refine ⟨_, _, rfl, fun j hj => ⟨_, rfl, ?_⟩⟩
    have ea : ∀ k, ((⟨B, 0, none⟩ : Addr).add k) = ⟨B, k, none⟩ := fun k => by unfold Addr.add; split <;> simp_all
    have hc : ∀ d u, d < 3 → (ent (l.getD j slN))[d]? = some u → W.cell? ⟨B, j * 3 + d, none⟩ = some u := fun d u hd hu => by
      have := hc rfl (j * 3 + d) u (by rw [rows_at6 l j d hj hd]; exact hu)
      rw [ea] at this; exact this
    unfold group.ECells
    rw [ea]
    exact ⟨hc 0 _ (by decide) rfl, hc 1 _ (by decide) rfl, hc 2 _ (by decide) rfl⟩
theorem keptE_at {base : Nat} {W : World} {o : Option Addr} {n c : Nat} {l : List Sl} (h : KeptE base W (.slice o n c) l) : RowsAt o (fun j => l.getD j slN) l.length W := by
  obtain ⟨o', c', e, hx⟩ := keptE_rows h
  injection e with e1 _ _
  rw [e1]; exact hx
theorem lks_take (t : Tb) (l : List Sl) {j : Nat} (hj : j < l.length) : lks t (l.take (j + 1)) = lks t (l.take j) ++ [table.looks t (l.getD j slN).key (l.getD j slN).hash] := by
  rw [List.take_add_one, List.getElem?_eq_getElem hj, List.getD_eq_getElem?_getD, List.getElem?_eq_getElem hj]
  exact lks_snoc t _ _
/-- a box with six numbers -/
structure A6 (X a b c d e f : Nat) (W : World) : Prop where
  row : W.heap[X]? = some (.cells #[.int .i64 (a : Nat), .int .i64 (b : Nat), .int .i64 (c : Nat), .int .i64 (d : Nat), .int .i64 (e : Nat), .int .i64 (f : Nat)] 29 (0, 0))
section
variable {X a b c d e f : Nat} {W W' : World}
theorem A6.lt (h : A6 X a b c d e f W) : X < W.heap.size := (Array.getElem?_eq_some_iff.1 h.row).1
theorem A6.keep (h : A6 X a b c d e f W) (hb : Below W.heap.size W W') : A6 X a b c d e f W' := ⟨(hb.block X h.lt).trans h.row⟩
theorem A6.past {l : List Nat} (h : A6 X a b c d e f W) (hp : Past l W W') (hX : X ∉ l) : A6 X a b c d e f W' := ⟨(hp.block X h.lt hX).trans h.row⟩
theorem A6.fz (h : A6 X a b c d e f W) (i : Nat) : W.frozen? ⟨X, i, none⟩ = false := frozen_of_row _ _ i _ _ h.row
theorem A6.c0 (h : A6 X a b c d e f W) : W.cell? ⟨X, 0, none⟩ = some (.int .i64 (a : Nat)) := by rw [cell_of_row _ _ _ _ _ _ h.row]; rfl
theorem A6.c1 (h : A6 X a b c d e f W) : W.cell? ⟨X, 1, none⟩ = some (.int .i64 (b : Nat)) := by rw [cell_of_row _ _ _ _ _ _ h.row]; rfl
theorem A6.c2 (h : A6 X a b c d e f W) : W.cell? ⟨X, 2, none⟩ = some (.int .i64 (c : Nat)) := by rw [cell_of_row _ _ _ _ _ _ h.row]; rfl
theorem A6.c3 (h : A6 X a b c d e f W) : W.cell? ⟨X, 3, none⟩ = some (.int .i64 (d : Nat)) := by rw [cell_of_row _ _ _ _ _ _ h.row]; rfl
theorem A6.c4 (h : A6 X a b c d e f W) : W.cell? ⟨X, 4, none⟩ = some (.int .i64 (e : Nat)) := by rw [cell_of_row _ _ _ _ _ _ h.row]; rfl
theorem A6.c5 (h : A6 X a b c d e f W) : W.cell? ⟨X, 5, none⟩ = some (.int .i64 (f : Nat)) := by rw [cell_of_row _ _ _ _ _ _ h.row]; rfl
theorem A6.other (h : A6 X a b c d e f W) {Y : Nat} (hY : X ≠ Y) (i : Nat) (u : Value) : A6 X a b c d e f (W.setCell ⟨Y, i, none⟩ u) := ⟨(heap_setCell_other _ _ _ _ (show X ≠ Y from hY)).trans h.row⟩
theorem A6.set0 (h : A6 X a b c d e f W) (x : Nat) : A6 X x b c d e f (W.setCell ⟨X, 0, none⟩ (.int .i64 (x : Nat))) := ⟨heap_setCell_same W X 0 _ _ _ h.row⟩
theorem A6.set1 (h : A6 X a b c d e f W) (x : Nat) : A6 X a x c d e f (W.setCell ⟨X, 1, none⟩ (.int .i64 (x : Nat))) := ⟨heap_setCell_same W X 1 _ _ _ h.row⟩
theorem A6.set2 (h : A6 X a b c d e f W) (x : Nat) : A6 X a b x d e f (W.setCell ⟨X, 2, none⟩ (.int .i64 (x : Nat))) := ⟨heap_setCell_same W X 2 _ _ _ h.row⟩
theorem A6.set3 (h : A6 X a b c d e f W) (x : Nat) : A6 X a b c x e f (W.setCell ⟨X, 3, none⟩ (.int .i64 (x : Nat))) := ⟨heap_setCell_same W X 3 _ _ _ h.row⟩
theorem A6.set4 (h : A6 X a b c d e f W) (x : Nat) : A6 X a b c d x f (W.setCell ⟨X, 4, none⟩ (.int .i64 (x : Nat))) := ⟨heap_setCell_same W X 4 _ _ _ h.row⟩
theorem A6.set5 (h : A6 X a b c d e f W) (x : Nat) : A6 X a b c d e x (W.setCell ⟨X, 5, none⟩ (.int .i64 (x : Nat))) := ⟨heap_setCell_same W X 5 _ _ _ h.row⟩
end
theorem A6.new (W : World) : A6 W.heap.size 0 0 0 0 0 0 (W.alloc (.cells #[.int .i64 0, .int .i64 0, .int .i64 0, .int .i64 0, .int .i64 0, .int .i64 0] 29)) := ⟨World.alloc_heap_new W _⟩
/-- what there is so far: the result's box, the numbers' box; k groups looked at -/
structure Rl (w : World) (f : Rf) (t : Tb) (X Y kk a b c d e g : Nat) (W : World) : Prop where
  st : WStep f t kk w W
  r : A6 X 0 0 0 0 0 0 W
  s : A6 Y a b c d e g W
  hX : w.heap.size = X
  hY : X < Y
section
variable {w : World} {f : Rf} {t : Tb} {k0 X Y kk a b c d e g : Nat} {W W' : World}
theorem Rl.keep (h : Rl w f t X Y kk a b c d e g W) (hb : Below W.heap.size W W') : Rl w f t X Y kk a b c d e g W' := ⟨h.st.below hb, h.r.keep hb, h.s.keep hb, h.hX, h.hY⟩
/-- a step of the document's table -/
theorem Rl.step (h : Rl w f t X Y kk a b c d e g W) (hW : WAt f t k0 w) {k' : Nat} (hs : WStep f t k' W W') : Rl w f t X Y k' a b c d e g W' := by
  have hd : ∀ b, b ∈ f.d t.n → b < X := fun b hb => by have := hW.lts (.inl hb); have := h.hX; omega
  exact ⟨h.st.trans hs rfl, h.r.past hs.past fun e => by have := hd _ e; omega, h.s.past hs.past fun e => by have := hd _ e; have := h.hY; omega, h.hX, h.hY⟩
theorem Rl.put {a' b' c' d' e' g' : Nat} (h : Rl w f t X Y kk a b c d e g W) (hW : WAt f t k0 w) (i : Nat) (u : Value) (hs : A6 Y a' b' c' d' e' g' (W.setCell ⟨Y, i, none⟩ u)) : Rl w f t X Y kk a' b' c' d' e' g' (W.setCell ⟨Y, i, none⟩ u) :=
  ⟨h.st.newset hW rfl (by have := h.hX; have := h.hY; omega) i u, h.r.other (by have := h.hY; omega) _ _, hs, h.hX, h.hY⟩
end
abbrev a6V (a b c d e f : Nat) : Value := .agg #[.int .i64 (a : Nat), .int .i64 (b : Nat), .int .i64 (c : Nat), .int .i64 (d : Nat), .int .i64 (e : Nat), .int .i64 (f : Nat)]
set_option maxRecDepth 100000 in
set_option maxHeartbeats 8000000 in
theorem rlook_any (f : Rf) (t : Tb) (ht : t.Ok) (k : Nat) (hk : k + 64 < 9223372036854775807) (w : World) (hW : WAt f t k w) :
    Calls Tryz.prog 8 #[.pointer (some ⟨f.R, 0, none⟩)] w fun e w' => e = .returned (a6V (cntT 3 t) (cntT 2 t) (cntT 1 t) (oc t t.n) (mx (lks t (ents t t.n))) (lks t (ents t t.n)).sum) ∧ WStep f t k w w' := by
  have hn64 := okN_le ht.n
  have HW := Lib.hid hW
  have hb1 := new_block w (.cells #[.int .i64 0, .int .i64 0, .int .i64 0, .int .i64 0, .int .i64 0, .int .i64 0] 29)
  have hA1 := A6.new w
  have c3 := fun W (h : WAt f t k W) => (show Calls Tryz.prog 29 #[.pointer (some ⟨f.R, 0, none⟩), .int .i64 3] W fun e w' => e = .returned (.int .i64 (cntT 3 t : Nat)) ∧ Below W.heap.size W w' from rtcount_any f t k 3 hn64 W h)
  have c2 := fun W (h : WAt f t k W) => (show Calls Tryz.prog 29 #[.pointer (some ⟨f.R, 0, none⟩), .int .i64 2] W fun e w' => e = .returned (.int .i64 (cntT 2 t : Nat)) ∧ Below W.heap.size W w' from rtcount_any f t k 2 hn64 W h)
  have c1 := fun W (h : WAt f t k W) => (show Calls Tryz.prog 29 #[.pointer (some ⟨f.R, 0, none⟩), .int .i64 1] W fun e w' => e = .returned (.int .i64 (cntT 1 t : Nat)) ∧ Below W.heap.size W w' from rtcount_any f t k 1 hn64 W h)
  have hz1 := World.size_alloc w (.cells #[.int .i64 0, .int .i64 0, .int .i64 0, .int .i64 0, .int .i64 0, .int .i64 0] 29)
  have hW1 := hW.below hb1
  clear hW
  go_enter Tryz.func8, Tryz.ntmps8
  go_upto_region 1 with (fail)
  obtain ⟨w1, e1⟩ : ∃ w1, w.alloc (.cells #[.int .i64 0, .int .i64 0, .int .i64 0, .int .i64 0, .int .i64 0, .int .i64 0] 29) = w1 := ⟨_, rfl⟩
  rw [e1] at hb1 hA1 hz1 hW1 ⊢
  have HZ1 := Lib.hid hz1
  have HB1 := Lib.hid hb1
  clear e1 hz1 hb1
  go_wp2_with (first
    | (go_at_call 29; (with_reducible refine (c3 _ hW1).mono ?_); rintro e w2 ⟨rfl, hb2⟩; have hW2 := hW1.below hb2)
    | (go_at_call 29; (with_reducible refine (c2 _ hW2).mono ?_); rintro e w3 ⟨rfl, hb3⟩; have hW3 := hW2.below hb3)
    | (go_at_call 29; (with_reducible refine (c1 _ hW3).mono ?_); rintro e w4 ⟨rfl, hb4⟩; have hW4 := hW3.below hb4; have hW5 := hW4.below (new_block w4 (.cells #[.int .i64 (cntT 3 t : Nat), .int .i64 (cntT 2 t : Nat), .int .i64 (cntT 1 t : Nat), .int .i64 0, .int .i64 0, .int .i64 0] 29)); have q0 := hW5.cell0))
  have hL0 : Rl w f t w.heap.size w4.heap.size k (cntT 3 t) (cntT 2 t) (cntT 1 t) (oc t 0) 0 0 (w4.alloc (.cells #[.int .i64 (cntT 3 t : Nat), .int .i64 (cntT 2 t : Nat), .int .i64 (cntT 1 t : Nat), .int .i64 0, .int .i64 0, .int .i64 0] 29)) := by
    have hb24 := under.below_step hb2 (under.below_step hb3 hb4)
    have hbn := new_block w4 (.cells #[.int .i64 (cntT 3 t : Nat), .int .i64 (cntT 2 t : Nat), .int .i64 (cntT 1 t : Nat), .int .i64 0, .int .i64 0, .int .i64 0] 29)
    exact ⟨⟨Past.of (under.below_step HB1.out (under.below_step hb24 hbn)), hW5⟩, (hA1.keep hb24).keep hbn, ⟨World.alloc_heap_new w4 _⟩, rfl, by have := HZ1.out; have := hb24.size; omega⟩
  have HL := Lib.hid hL0
  clear hL0 hW1 hW2 hW3 hW4 hW5 hb2 hb3 hb4 hA1 c1 c2 c3 HB1 HZ1 q0
  generalize w4.alloc (.cells #[.int .i64 (cntT 3 t : Nat), .int .i64 (cntT 2 t : Nat), .int .i64 (cntT 1 t : Nat), .int .i64 0, .int .i64 0, .int .i64 0] 29) = W0 at *
  generalize w4.heap.size = Y at *
  generalize hXe : w.heap.size = X at *
  go_loopw [21] (fun i wr => ∃ j : Nat, j ≤ t.n ∧ i = .int .i64 j ∧ Hid (Rl w f t X Y k (cntT 3 t) (cntT 2 t) (cntT 1 t) (oc t j) 0 0 wr)) (fun i _ => t.n - (intOf i).toNat)
  case atStart => exact ⟨0, by omega, rfl, HL⟩
  case round =>
    obtain ⟨j, hj, rfl, HR⟩ := hrel
    clear HL
    rcases Nat.lt_or_ge j t.n with hjn | hjn
    · have hji : (j : Int) < (t.n : Int) := by omega
      have hpt := HR.out.st.at'.pt j hjn
      have cG := (show Calls Tryz.prog 30 #[.pointer (some ⟨f.Q j, 0, none⟩), .int .i64 1] wr fun e w' => e = .returned (.int .i64 (count 1 (t.gs j) : Nat)) ∧ Below wr.heap.size wr w' from rcount_any (f.Q j) (t.gs j) 1 wr (HR.out.st.at'.gs j hjn))
      have hoc : oc t (j + 1) = oc t j + (opens (t.gs j)).toNat := rfl
      have hob := oc_le t (j + 1)
      have hop := opens_count (t.gs j)
      rw [hoc] at hob
      have HOC := Lib.hid hoc
      clear hoc
      generalize count 1 (t.gs j) = m at *
      generalize opens (t.gs j) = ob at *
      generalize oc t j = p at *
      rcases Nat.eq_zero_or_pos m with hm | hm
      · subst hm
        have hob0 : ob = false := by rw [hop]; rfl
        have HO := Lib.hid hob0
        clear hop hob hob0
        go_wp2_with (go_at_call 30; (with_reducible refine cG.mono ?_); rintro e w5 ⟨rfl, hb5⟩; have H5 := Lib.hid (HR.out.keep hb5))
        go_roundw
        case rel => exact ⟨j + 1, by omega, by simp, by rw [HOC.out, HO.out]; exact H5⟩
        case measure => simp [intOf]; omega
      · have hob1 : ob = true := by rw [hop]; exact decide_eq_true hm
        have HO := Lib.hid hob1
        rw [hob1] at hob
        simp only [Bool.toNat_true] at hob
        have d1 : decide (0 < m) = true := decide_eq_true hm
        have d2 : decide ((0 : Int) < (m : Int)) = true := decide_eq_true (by omega)
        have e1 : IntKind.i64.wrap ((p : Int) + 1) = (p : Int) + 1 := IntWalk.i64_in _ (by omega)
        clear hop hm hob1
        go_wp2_with (go_at_call 30; (with_reducible refine cG.mono ?_); rintro e w5 ⟨rfl, hb5⟩; have H5 := Lib.hid (HR.out.keep hb5); have x3 := H5.out.s.c3; have f3 := H5.out.s.fz 3)
        go_roundw
        case rel => exact ⟨j + 1, by omega, by simp, by rw [HOC.out, HO.out]; exact Lib.hid (H5.out.put HW.out 3 _ (H5.out.s.set3 (p + 1)))⟩
        case measure => simp [intOf]; omega
    · obtain rfl : j = t.n := by omega
      have cA := rtall_any f t ht.n k wr HR.out.st.at'
      have x1 := HR.out.st.at'.cell1
      have hlen := ents_512 ht
      go_wp2_with (go_at_call 31; (with_reducible refine cA.mono ?_); rintro e w5 ⟨v, rfl, hK, hb5⟩; obtain ⟨o, c, rfl, hrw⟩ := keptE_rows hK; clear hrw)
      have hYb : Y < wr.heap.size := HR.out.s.lt
      have H5 := Lib.hid (show Rl w f t X Y k (cntT 3 t) (cntT 2 t) (cntT 1 t) (oc t t.n) (mx (lks t ((ents t t.n).take 0))) (lks t ((ents t t.n).take 0)).sum w5 ∧ KeptE wr.heap.size w5 (.slice o (ents t t.n).length c) (ents t t.n) from ⟨HR.out.keep hb5, hK⟩)
      generalize wr.heap.size = base at *
      clear HR hK hb5 cA x1
      go_loopw [40] (fun i wr => ∃ j kk : Nat, j ≤ (ents t t.n).length ∧ kk ≤ k + 64 ∧ i = .int .i64 j ∧ Hid (Rl w f t X Y kk (cntT 3 t) (cntT 2 t) (cntT 1 t) (oc t t.n) (mx (lks t ((ents t t.n).take j))) (lks t ((ents t t.n).take j)).sum wr ∧ KeptE base wr (.slice o (ents t t.n).length c) (ents t t.n))) (fun i _ => (ents t t.n).length - (intOf i).toNat)
      case atStart => exact ⟨0, k, by omega, by omega, rfl, H5⟩
      case round =>
        obtain ⟨j, kk, hj, hkk, rfl, HR⟩ := hrel
        clear H5
        rcases Nat.lt_or_ge j (ents t t.n).length with hjl | hjl
        · have hji : (j : Int) < ((ents t t.n).length : Int) := by omega
          obtain ⟨x, rfl, y0, y1, y2⟩ := keptE_at HR.out.2 j hjl
          have hmem : (ents t t.n).getD j slN ∈ ents t t.n := by rw [List.getD_eq_getElem?_getD, List.getElem?_eq_getElem hjl]; exact List.getElem_mem _
          have hx := (ents_ok ht hmem).1.hash
          have HT := Lib.hid (lks_take t (ents t t.n) hjl)
          have hsum := lks_sum_le t ((ents t t.n).take j)
          have hs2 : (lks t ((ents t t.n).take j)).sum ≤ 32768 := Nat.le_trans hsum (Nat.le_trans (Nat.mul_le_mul hn64 (show ((ents t t.n).take j).length ≤ 512 by rw [List.length_take]; omega)) (by decide))
          have hle := looks_le t ((ents t t.n).getD j slN).key ((ents t t.n).getD j slN).hash
          have cF := fun W (h : WAt f t 0 W) => rtfind_any f t ht.n 0 ((ents t t.n).getD j slN).key ((ents t t.n).getD j slN).hash (by omega) hx W h
          have HM := Lib.hid (mx_snoc (lks t ((ents t t.n).take j)) (table.looks t ((ents t t.n).getD j slN).key ((ents t t.n).getD j slN).hash))
          have HSm := Lib.hid (show (lks t ((ents t t.n).take j) ++ [table.looks t ((ents t t.n).getD j slN).key ((ents t t.n).getD j slN).hash]).sum = (lks t ((ents t t.n).take j)).sum + table.looks t ((ents t t.n).getD j slN).key ((ents t t.n).getD j slN).hash from by simp)
          clear hsum hmem hx
          generalize entOf t ((ents t t.n).getD j slN).key ((ents t t.n).getD j slN).hash = eo at *
          generalize isThere t ((ents t t.n).getD j slN).key ((ents t t.n).getD j slN).hash = it at *
          generalize table.looks t ((ents t t.n).getD j slN).key ((ents t t.n).getD j slN).hash = lk at *
          generalize ((ents t t.n).getD j slN).key = ek at *
          generalize ((ents t t.n).getD j slN).val = ev at *
          generalize ((ents t t.n).getD j slN).hash = eh at *
          obtain ⟨p, hp⟩ : ∃ p, mx (lks t ((ents t t.n).take j)) = p := ⟨_, rfl⟩
          obtain ⟨s, hs⟩ : ∃ s, (lks t ((ents t t.n).take j)).sum = s := ⟨_, rfl⟩
          rw [hp] at HR HM
          rw [hs] at HR hs2 HSm
          clear hp hs
          have hbn := new_block wr (.cells #[.int .u64 (ek : Nat), .int .u64 (ev : Nat), .int .u64 (eh : Nat)] 60)
          have HE := Lib.hid (EBox.new ek ev eh wr)
          have R5 := Lib.hid (HR.out.1.keep hbn)
          have K5 := Lib.hid (show KeptE base _ _ _ from row_below HR.out.2 hbn)
          have q1 := R5.out.st.at'.cell1
          have q2 := R5.out.st.at'.fz 1
          have hXl : X < wr.heap.size := HR.out.1.r.lt
          have hdd : ∀ b, b ∈ f.d t.n → b < X := fun b hb => by have := HW.out.lts (.inl hb); omega
          have HD := Lib.hid hdd
          have hne : wr.heap.size ∉ f.d t.n := fun e => by have := hdd _ e; omega
          have hbb : ∀ b ∈ f.d t.n, b < base := fun b hb => by have := hdd b hb; have := HR.out.1.hY; omega
          clear hdd hbn HR
          go_upto_region 13 with (fail)
          have p6 : Past (f.d t.n) (wr.alloc (.cells #[.int .u64 (ek : Nat), .int .u64 (ev : Nat), .int .u64 (eh : Nat)] 60)) ((wr.alloc (.cells #[.int .u64 (ek : Nat), .int .u64 (ev : Nat), .int .u64 (eh : Nat)] 60)).setCell ⟨f.R, 1, none⟩ (.int .i64 0)) := (R5.out.st.at'.setK 0).past
          have R6 : Rl w f t X Y 0 (cntT 3 t) (cntT 2 t) (cntT 1 t) (oc t t.n) p s ((wr.alloc (.cells #[.int .u64 (ek : Nat), .int .u64 (ev : Nat), .int .u64 (eh : Nat)] 60)).setCell ⟨f.R, 1, none⟩ (.int .i64 0)) := R5.out.step HW.out (R5.out.st.at'.setK 0)
          have E6 := HE.out.past p6 hne
          have K6 := Lib.hid (show KeptE base _ _ _ from row_past K5.out p6 hbb)
          have R6 := Lib.hid R6
          clear p6 R5 K5 q1 q2 HE y0 y1 y2
          generalize (wr.alloc (.cells #[.int .u64 (ek : Nat), .int .u64 (ev : Nat), .int .u64 (eh : Nat)] 60)).setCell ⟨f.R, 1, none⟩ (.int .i64 0) = w6 at *
          generalize wr.heap.size = E at *
          have z0 := E6.c0
          have z2 := E6.c2
          go_upto_region 14 with (go_at_call 32; (with_reducible refine (cF _ R6.out.st.at').mono ?_); rintro e w7 ⟨rfl, hs7⟩)
          have K7 := Lib.hid (show KeptE base _ _ _ from row_past K6.out hs7.past hbb)
          have R7 := R6.out.step HW.out hs7
          rw [Nat.zero_add] at R7
          have R7 := Lib.hid R7
          clear hs7 E6 z0 z2 R6 K6 cF hne
          have q1 := R7.out.st.at'.cell1
          have x4 := R7.out.s.c4
          have x5 := R7.out.s.c5
          have f4 := R7.out.s.fz 4
          have f5 := R7.out.s.fz 5
          have e5 : IntKind.i64.wrap ((s : Int) + (lk : Int)) = (s : Int) + (lk : Int) := IntWalk.i64_in _ (by omega)
          rcases Nat.lt_or_ge p lk with hpq | hpq
          · have d1 : decide (p < lk) = true := decide_eq_true hpq
            have d2 : decide ((p : Int) < (lk : Int)) = true := decide_eq_true (by omega)
            go_quiet (fail)
            go_wp2_with (fail)
            have hnd : WStep f t lk w (w7.drewN nq) := R7.out.st.below (below_drewN' w7 nq)
            have R8 := Lib.hid (show Rl w f t X Y lk (cntT 3 t) (cntT 2 t) (cntT 1 t) (oc t t.n) lk s ((w7.drewN nq).setCell ⟨Y, 4, none⟩ (.int .i64 (lk : Nat))) from (R7.out.keep (below_drewN' w7 nq)).put HW.out 4 _ ((R7.out.keep (below_drewN' w7 nq)).s.set4 lk))
            have K8 := Lib.hid (show KeptE base ((w7.drewN nq).setCell ⟨Y, 4, none⟩ (.int .i64 (lk : Nat))) (.slice (some x) (ents t t.n).length c) (ents t t.n) from row_past (row_below K7.out (below_drewN' w7 nq)) ((Past.refl [Y] _).store (p := ⟨Y, 4, none⟩) (.inl (by simp)) _) (fun b hb => by rw [List.mem_singleton.1 hb]; exact hYb))
            have q1 := R8.out.st.at'.cell1
            have x5 := R8.out.s.c5
            have f5 := R8.out.s.fz 5
            clear hnd R7 K7 x4 f4 d1 d2
            generalize (w7.drewN nq).setCell ⟨Y, 4, none⟩ (.int .i64 (lk : Nat)) = w8 at *
            refine wp_region_tail_drew 8 (by kernel_rfl) (by kernel_rfl) ?_
            simp only [List.take_succ_cons, List.take_zero, List.drop_succ_cons, List.drop_zero]
            repeat (quiet_step (fail))
            refine wpQuiet_nil ?_
            intro w9 hw9
            obtain ⟨q, rfl⟩ := hw9
            have R9 := Lib.hid (R8.out.keep (below_drewN' w8 q))
            have K9 := Lib.hid (show KeptE base (w8.drewN q) (.slice (some x) (ents t t.n).length c) (ents t t.n) from row_below K8.out (below_drewN' w8 q))
            have f5 := R9.out.s.fz 5
            go_wp2
            have RA := R9.out.put HW.out 5 _ (R9.out.s.set5 (s + lk))
            have KA : KeptE base ((w8.drewN q).setCell ⟨Y, 5, none⟩ (.int .i64 ((s + lk : Nat) : Nat))) (.slice (some x) (ents t t.n).length c) (ents t t.n) := row_past K9.out ((Past.refl [Y] _).store (p := ⟨Y, 5, none⟩) (.inl (by simp)) _) (fun b hb => by rw [List.mem_singleton.1 hb]; exact hYb)
            go_roundw
            case rel => exact ⟨j + 1, lk, by omega, by omega, by simp, ⟨by rw [HT.out, HM.out, HSm.out, Nat.max_eq_right (Nat.le_of_lt hpq)]; exact RA, KA⟩⟩
            case measure => simp [intOf]; omega
          · have d1 : decide (p < lk) = false := decide_eq_false (by omega)
            have d2 : decide ((p : Int) < (lk : Int)) = false := decide_eq_false (by omega)
            go_quiet (fail)
            go_wp2_with (fail)
            have hnd : WStep f t lk w (w7.drewN nq) := R7.out.st.below (below_drewN' w7 nq)
            have R8 := Lib.hid (R7.out.keep (below_drewN' w7 nq))
            have K8 := Lib.hid (show KeptE base (w7.drewN nq) (.slice (some x) (ents t t.n).length c) (ents t t.n) from row_below K7.out (below_drewN' w7 nq))
            have q1 := R8.out.st.at'.cell1
            have x5 := R8.out.s.c5
            have f5 := R8.out.s.fz 5
            clear hnd R7 K7 x4 f4 d1 d2
            generalize w7.drewN nq = w8 at *
            refine wp_region_tail_drew 8 (by kernel_rfl) (by kernel_rfl) ?_
            simp only [List.take_succ_cons, List.take_zero, List.drop_succ_cons, List.drop_zero]
            repeat (quiet_step (fail))
            refine wpQuiet_nil ?_
            intro w9 hw9
            obtain ⟨q, rfl⟩ := hw9
            have R9 := Lib.hid (R8.out.keep (below_drewN' w8 q))
            have K9 := Lib.hid (show KeptE base (w8.drewN q) (.slice (some x) (ents t t.n).length c) (ents t t.n) from row_below K8.out (below_drewN' w8 q))
            have f5 := R9.out.s.fz 5
            go_wp2
            have RA := R9.out.put HW.out 5 _ (R9.out.s.set5 (s + lk))
            have KA : KeptE base ((w8.drewN q).setCell ⟨Y, 5, none⟩ (.int .i64 ((s + lk : Nat) : Nat))) (.slice (some x) (ents t t.n).length c) (ents t t.n) := row_past K9.out ((Past.refl [Y] _).store (p := ⟨Y, 5, none⟩) (.inl (by simp)) _) (fun b hb => by rw [List.mem_singleton.1 hb]; exact hYb)
            go_roundw
            case rel => exact ⟨j + 1, lk, by omega, by omega, by simp, ⟨by rw [HT.out, HM.out, HSm.out, Nat.max_eq_left hpq]; exact RA, KA⟩⟩
            case measure => simp [intOf]; omega
        · have hjj : j = (ents t t.n).length := by omega
          subst hjj
          rw [List.take_length] at HR
          have x1 := HR.out.1.st.at'.cell1
          have x2 := HR.out.1.st.at'.fz 1
          go_upto_region 19 with (fail)
          have RB := HR.out.1.step HW.out (HR.out.1.st.at'.setK k)
          have RB := Lib.hid RB
          clear HR x1 x2
          generalize wr.setCell ⟨f.R, 1, none⟩ (.int .i64 (k : Nat)) = wz at *
          have x0 := RB.out.s.c0
          have x1 := RB.out.s.c1
          have x2 := RB.out.s.c2
          have x3 := RB.out.s.c3
          have x4 := RB.out.s.c4
          have x5 := RB.out.s.c5
          have y0 := RB.out.r.c0
          have y1 := RB.out.r.c1
          have y2 := RB.out.r.c2
          have y3 := RB.out.r.c3
          have y4 := RB.out.r.c4
          have y5 := RB.out.r.c5
          have yf := RB.out.r.fz
          go_wp2
          have hXX : w.heap.size ≤ X := by omega
          refine bodyPost_ret (v := a6V (cntT 3 t) (cntT 2 t) (cntT 1 t) (oc t t.n) (mx (lks t (ents t t.n))) (lks t (ents t t.n)).sum) (by simp [results, Tryz.results8, go_sem, y0, y1, y2, y3, y4, y5]) rfl ⟨rfl, ?_⟩
          exact (((((RB.out.st.newset HW.out rfl hXX 0 _).newset HW.out rfl hXX 1 _).newset HW.out rfl hXX 2 _).newset HW.out rfl hXX 3 _).newset HW.out rfl hXX 4 _).newset HW.out rfl hXX 5 _
/-- within Path: the groups ahead of j are none of them open -/
structure Pr (f : Rf) (t : Tb) (h g : Nat) (w : World) (j : Nat) (v : Value) (W : World) : Prop where
  row : probe.Holds w.heap.size W v (wlj (h / 128) t.n j)
  bel : Below w.heap.size w W
  pl : ∀ i, i < t.n → W.cell? ⟨g, i, none⟩ = some (.int .i64 (plc (h / 128) t.n i : Nat))
  ne : v.ownBlock ≠ some g
theorem Pr.row' {f : Rf} {t : Tb} {h g : Nat} {w : World} {j : Nat} {v : Value} {W : World} (H : Pr f t h g w j v W) : W.ownsRow w.heap.size 3 1 v j ((wlj (h / 128) t.n j).map probe.enc) := by
  have := H.row.1
  rwa [wlj_length] at this
theorem Pr.snoc {f : Rf} {t : Tb} {h g : Nat} {w : World} {j i : Nat} {v : Value} {W W' : World} {o : Obj} {gg cap : Nat} (H : Pr f t h g w j v W) (hp : 0 < t.n) (hi : wlj (h / 128) t.n (j + 1) = wlj (h / 128) t.n j ++ [i])
    (ho : W'.ownsRow w.heap.size 3 1 (.slice (some ⟨gg, 0, none⟩) (j + 1) cap) (j + 1) ((wlj (h / 128) t.n j).map probe.enc ++ [.int .i64 (i : Nat)])) (hg : (W.alloc o).grownBy W' v.ownBlock) (ha : v.ownBlock = some gg ∨ gg = (W.alloc o).heap.size) : Pr f t h g w (j + 1) (.slice (some ⟨gg, 0, none⟩) (j + 1) cap) W' := by
  have hgl : g < W.heap.size := World.block_lt_of_cell? W _ (H.pl 0 hp)
  have hz := World.size_alloc W o
  refine ⟨?_, (H.bel.alloc H.bel.size _).grown hg (by have := H.bel.size; omega) (fun r e => H.row.base r e), fun q hq => hg.cell (keepc (new_block W o) (H.pl q hq)) (fun e => H.ne e.symm), fun e => ?_⟩
  · rw [hi]
    refine probe.Holds.snoc (l := wlj (h / 128) t.n j) (k := i) ?_
    rw [wlj_length]; exact ho
  · have e : some gg = some g := e
    injection e with e
    subst e
    rcases ha with ha | ha
    · exact H.ne ha
    · omega
theorem Pr.read {f : Rf} {t : Tb} {h g : Nat} {w : World} {j : Nat} {v : Value} {W W' : World} (H : Pr f t h g w j v W) (hb : Below W.heap.size W W') : Pr f t h g w j v W' :=
  ⟨⟨row_below H.row.1 hb, H.row.2⟩, under.below_step H.bel hb, fun q hq => keepc hb (H.pl q hq), H.ne⟩
theorem Pr.fin {f : Rf} {t : Tb} {h g : Nat} {w : World} {j : Nat} {v : Value} {W : World} (H : Pr f t h g w j v W) (hl : po t h = wlj (h / 128) t.n j) : ∃ g c, (v = .slice (some ⟨g, 0, none⟩) (po t h).length c) ∧ (∀ j, j < (po t h).length → W.cell? ⟨g, j, none⟩ = some (.int .i64 ((po t h)[j]?.getD 0 : Nat))) ∧ Below w.heap.size w W := by
  obtain ⟨g', c, hv, hlt, hb, hc⟩ := H.row.cells
  rw [hl]
  exact ⟨g', c, hv, hc, H.bel⟩
set_option maxRecDepth 100000 in
set_option maxHeartbeats 8000000 in
theorem rpath_any (f : Rf) (t : Tb) (ht : t.Ok) (k h : Nat) (hh : h < 18446744073709551616) (w : World) (hW : WAt f t k w) :
    Calls Tryz.prog 12 #[.pointer (some ⟨f.R, 0, none⟩), .int .u64 (h : Nat)] w fun e w' => ∃ g c, e = .returned (.slice (some ⟨g, 0, none⟩) (po t h).length c) ∧ (∀ j, j < (po t h).length → w'.cell? ⟨g, j, none⟩ = some (.int .i64 ((po t h)[j]?.getD 0 : Nat))) ∧ Below w.heap.size w w' := by
  obtain ⟨i0, hi0, hz0, hz1, hz2⟩ := info_parts infoInt
  have hn64 := okN_le ht.n
  have hp := okN_pos ht.n
  have HW := Lib.hid hW
  have e128 : ((h : Nat) : Int) / 128 = ((h / 128 : Nat) : Int) := by omega
  have cO := fun W => (show Calls Tryz.prog 38 #[.int .u64 ((h : Int) / 128), .int .i64 (t.n : Nat)] W fun e w' => ∃ g c, e = .returned (.slice (some ⟨g, 0, none⟩) t.n c) ∧ g < w'.heap.size ∧ W.heap.size ≤ g ∧ (∀ j, j < t.n → w'.cell? ⟨g, j, none⟩ = some (.int .i64 (plc (h / 128) t.n j : Nat))) ∧ Below W.heap.size W w' from by
    rw [e128]
    refine (rorder_yes (h / 128) t.n ht.n W).mono ?_
    rintro e w' ⟨v, rfl, hk, hb⟩
    obtain ⟨g, c, rfl, hg, hbg, hcell⟩ := hk.cells
    rw [wl_length] at hcell ⊢
    exact ⟨g, c, rfl, hg, hbg, fun j hj => by rw [hcell j hj, wl_get (h / 128) t.n j hj]; rfl, hb⟩)
  have hw128 : IntKind.u64.wrap ((h : Int) / 128) = (h : Int) / 128 := by rw [IntKind.wrap_u64]; omega
  have hbe := new_block w (.cells #[] 3)
  have q0 := (hW.below hbe).cell0
  have hol := probe.holds_new w w (Below.refl _ _)
  have hza := World.size_alloc w (.cells #[] 3)
  clear hW e128
  go_enter Tryz.func12, Tryz.ntmps12
  go_wp2_with (go_at_call 38; (with_reducible refine (cO _).mono ?_); rintro e w1 ⟨g3, c3, rfl, hg3, hg3b, hC3, hb1⟩)
  have HP := Lib.hid (show Pr f t h g3 w 0 (.slice (some ⟨w.heap.size, 0, none⟩) 0 0) w1 from ⟨⟨row_below hol.1 hb1, hol.2⟩, under.below_step hbe hb1, hC3, fun e => by
    have e : some w.heap.size = some g3 := e
    injection e with e; omega⟩)
  clear hol hb1 hbe hC3 hg3 hg3b hza q0 cO hw128
  go_loopw [5, 18] (fun v i wr => ∃ j : Nat, j ≤ t.n ∧ i = .int .i64 j ∧ Hid (Pr f t h g3 w j v wr ∧ ∀ i ∈ wlj (h / 128) t.n j, opens (t.gs i) = false)) (fun _ i _ => t.n - (intOf i).toNat)
  case atStart => exact ⟨0, by omega, rfl, ⟨HP.out, by simp [wlj]⟩⟩
  case round =>
    obtain ⟨j, hj, rfl, HR⟩ := hrel
    clear HP
    rcases Nat.lt_or_ge j t.n with hjn | hjn
    · have hji : (j : Int) < (t.n : Int) := by omega
      have d0 := HR.out.1.pl j hjn
      have HJ := Lib.hid (wlj_succ (h / 128) t.n j)
      have HPL := Lib.hid (wlj_prefix (h / 128) t.n (j + 1) hjn)
      have hil : plc (h / 128) t.n j < t.n := plc_lt hp
      obtain ⟨i, hi⟩ : ∃ i, plc (h / 128) t.n j = i := ⟨_, rfl⟩
      rw [hi] at HJ hil d0
      clear hi
      have hii : (i : Int) < (t.n : Int) := by omega
      have cG := fun W hb => (show Calls Tryz.prog 30 #[.pointer (some ⟨f.Q i, 0, none⟩), .int .i64 1] W fun e w' => e = .returned (.int .i64 (count 1 (t.gs i) : Nat)) ∧ Below W.heap.size W w' from rcount_any (f.Q i) (t.gs i) 1 W ((HW.out.below hb).gs i hil))
      have hop := opens_count (t.gs i)
      cases hm : opens (t.gs i)
      · rw [hm] at hop
        have hm0 : count 1 (t.gs i) = 0 := by
          have := of_decide_eq_false hop.symm; omega
        rw [hm0] at cG
        have HM := Lib.hid hm
        clear hm hm0 hop
        go_wp2_with (first
          | (at_builtin; refine wpList_append_lies _ rfl _ _ 36 rfl w.heap.size 3 i0 (.int .i64 0) 1 8 Tryz.underlying36 hi0 hz0 hz1 hz2 rfl (by decide) _ _ _ rfl (HR.out.1.row'.alloc _) ⟨wr.heap.size, 0, none⟩ 1 1 [.int .i64 (i : Nat)] rfl rfl (table.cell_one_new _ _ _) (by simp [Value.oneCell']) (by decide) (by simp only [maxLen]; omega) (by omega) (by have := HR.out.1.bel.size; simp; omega) _ rfl ?_; intro gg cap w5 hown5 hgrow5 hat5 hlt5; have HS := Lib.hid (HR.out.1.snoc hp HJ.out hown5 hgrow5 hat5); clear hown5 hgrow5 hat5 hlt5; have hW5 := HW.out.below HS.out.bel; have q0 := hW5.cell0; have q1 := hW5.pt i hil; clear hW5)
          | (go_at_call 30; (with_reducible refine (cG _ HS.out.bel).mono ?_); rintro e w6 ⟨rfl, hb6⟩))
        go_roundw
        case rel =>
          refine ⟨j + 1, by omega, by simp, Lib.hid ⟨HS.out.read hb6, fun q hq => ?_⟩⟩
          rw [HJ.out] at hq
          rcases List.mem_append.1 hq with hq | hq
          · exact HR.out.2 q hq
          · obtain rfl : q = i := by simpa using hq
            exact HM.out
        case measure => simp [intOf]; omega
      · rw [hm] at hop
        have hm0 : 0 < count 1 (t.gs i) := of_decide_eq_true hop.symm
        have HM := Lib.hid hm
        clear hm hop
        generalize count 1 (t.gs i) = m at *
        have d1 : decide (0 < m) = true := decide_eq_true hm0
        have d2 : decide ((0 : Int) < (m : Int)) = true := decide_eq_true (by omega)
        go_wp2_with (first
          | (at_builtin; refine wpList_append_lies _ rfl _ _ 36 rfl w.heap.size 3 i0 (.int .i64 0) 1 8 Tryz.underlying36 hi0 hz0 hz1 hz2 rfl (by decide) _ _ _ rfl (HR.out.1.row'.alloc _) ⟨wr.heap.size, 0, none⟩ 1 1 [.int .i64 (i : Nat)] rfl rfl (table.cell_one_new _ _ _) (by simp [Value.oneCell']) (by decide) (by simp only [maxLen]; omega) (by omega) (by have := HR.out.1.bel.size; simp; omega) _ rfl ?_; intro gg cap w5 hown5 hgrow5 hat5 hlt5; have HS := Lib.hid (HR.out.1.snoc hp HJ.out hown5 hgrow5 hat5); clear hown5 hgrow5 hat5 hlt5; have hW5 := HW.out.below HS.out.bel; have q0 := hW5.cell0; have q1 := hW5.pt i hil; clear hW5)
          | (go_at_call 30; (with_reducible refine (cG _ HS.out.bel).mono ?_); rintro e w6 ⟨rfl, hb6⟩))
        have hpo : po t h = wlj (h / 128) t.n (j + 1) := by
          rw [HJ.out]
          exact seen_at (p := fun i => opens (t.gs i)) HM.out (by rw [← HJ.out]; exact HPL.out) HR.out.2
        go_ret
        obtain ⟨ga, ca, e, hx⟩ := (HS.out.read hb6).fin hpo
        exact ⟨ga, ca, congrArg Ending.returned e, hx⟩
    · obtain rfl : j = t.n := by omega
      have hpo : po t h = wlj (h / 128) t.n t.n := seen_all HR.out.2
      go_wp2
      go_ret
      obtain ⟨ga, ca, e, hx⟩ := HR.out.1.fin hpo
      exact ⟨ga, ca, congrArg Ending.returned e, hx⟩
end Go.Proofs.YtpllkopllhldcaaGreatDoor.sound
