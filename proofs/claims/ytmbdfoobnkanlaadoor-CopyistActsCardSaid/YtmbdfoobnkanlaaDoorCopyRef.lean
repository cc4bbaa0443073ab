/- CopyRef: the document's copyist: where it lies, and what its calls do. -/
import Derived.Test.YtmbdfoobnkanlaaDoorCopy
namespace Go.Proofs.YtmbdfoobnkanlaaDoor.copyist
open Go.ChangeShapes Go.WideShapes Go.ChangeAt Go.RowKit split trap errs dir meter
set_option linter.unusedSimpArgs false
set_option linter.unusedVariables false

/-- the document's copyist's block R, its directory's B, the row of entries G -/
structure QAt (R B G d : Nat) (f : Nat → Nat) (k : Nat) (t : Bool) (w : World) : Prop where
  d4 : d ≤ 4
  row : w.heap[R]? = some (.cells #[.pointer (some ⟨B, 0, none⟩), .int .i64 (k : Nat), .bool t] 48 (0, 0))
  b : RAt B G d f w
  kd : k ≤ 2 ^ d
  rb : R ≠ B
  rg : R ≠ G
section
variable {R B G d k : Nat} {f f' : Nat → Nat} {t : Bool} {w w' : World}
theorem QAt.lt (h : QAt R B G d f k t w) : R < w.heap.size := (Array.getElem?_eq_some_iff.1 h.row).1
theorem QAt.below (h : QAt R B G d f k t w) (hb : Below w.heap.size w w') : QAt R B G d f k t w' :=
  ⟨h.d4, (hb.block R h.lt).trans h.row, h.b.below hb, h.kd, h.rb, h.rg⟩
theorem QAt.past {l : List Nat} (h : QAt R B G d f k t w) (hb : Past l w w') (hR : R ∉ l) (hB : B ∉ l) (hG : G ∉ l) : QAt R B G d f k t w' :=
  ⟨h.d4, (hb.block R h.lt hR).trans h.row, h.b.past hb hB hG, h.kd, h.rb, h.rg⟩
theorem QAt.drewN (h : QAt R B G d f k t w) (q : Nat) : QAt R B G d f k t (w.drewN q) := ⟨h.d4, h.row, h.b.drewN q, h.kd, h.rb, h.rg⟩
theorem QAt.setG (h : QAt R B G d f k t w) (hp : Past [G] w w') (hd : RAt B G d f' w') : QAt R B G d f' k t w' :=
  ⟨h.d4, (hp.block R h.lt (by simpa using h.rg)).trans h.row, hd, h.kd, h.rb, h.rg⟩
theorem QAt.fz (h : QAt R B G d f k t w) (i : Nat) : w.frozen? ⟨R, i, none⟩ = false := frozen_of_row _ _ i _ _ h.row
theorem QAt.c0 (h : QAt R B G d f k t w) : w.cell? ⟨R, 0, none⟩ = some (.pointer (some ⟨B, 0, none⟩)) := by rw [cell_of_row _ _ _ _ _ _ h.row]; rfl
theorem QAt.c1 (h : QAt R B G d f k t w) : w.cell? ⟨R, 1, none⟩ = some (.int .i64 (k : Nat)) := by rw [cell_of_row _ _ _ _ _ _ h.row]; rfl
theorem QAt.c2 (h : QAt R B G d f k t w) : w.cell? ⟨R, 2, none⟩ = some (.bool t) := by rw [cell_of_row _ _ _ _ _ _ h.row]; rfl
theorem QAt.more (h : QAt R B G d f k t w) (hk : k < 2 ^ d) : QAt R B G d f (k + 1) t (w.setCell ⟨R, 1, none⟩ (.int .i64 ((k + 1 : Nat) : Int))) := by
  have hp : Past [R] w (w.setCell ⟨R, 1, none⟩ (.int .i64 ((k + 1 : Nat) : Int))) := (Past.refl [R] w).store (.inl (by simp)) _
  exact ⟨h.d4, heap_setCell_same w R 1 _ _ _ h.row, h.b.past hp (by simpa using h.rb.symm) (by simpa using h.rg.symm), hk, h.rb, h.rg⟩
theorem QAt.take (h : QAt R B G d f k t w) : QAt R B G d f k true (w.setCell ⟨R, 2, none⟩ (.bool true)) := by
  have hp : Past [R] w (w.setCell ⟨R, 2, none⟩ (.bool true)) := (Past.refl [R] w).store (.inl (by simp)) _
  exact ⟨h.d4, heap_setCell_same w R 2 _ _ _ h.row, h.b.past hp (by simpa using h.rb.symm) (by simpa using h.rg.symm), h.kd, h.rb, h.rg⟩
end
set_option maxRecDepth 20000 in
theorem rstep_no (R B G d : Nat) (f : Nat → Nat) (t : Bool) (w : World) (h : QAt R B G d f (2 ^ d) t w) :
    Calls Tryd.prog 16 #[.pointer (some ⟨R, 0, none⟩)] w fun e w' => e = .returned (.bool false) ∧ ∃ q, w' = w.drewN q := by
  have h0 := h.c0
  have h1 := h.c1
  have h2 := h.b.row
  clear h
  generalize 2 ^ d = n at h1 h2
  go_enter Tryd.func16, Tryd.ntmps16
  go_wp2_with fail
  go_quiet (fail)
  go_wp2
  go_ret
  exact ⟨rfl, _, rfl⟩
set_option maxRecDepth 20000 in
theorem rstep_yes (R B G d k : Nat) (f : Nat → Nat) (t : Bool) (w : World) (h : QAt R B G d f k t w) (hk : k < 2 ^ d) :
    Calls Tryd.prog 16 #[.pointer (some ⟨R, 0, none⟩)] w fun e w' => e = .returned (.bool true) ∧ Past [R] w w' ∧ QAt R B G d f (k + 1) t w' := by
  have h0 := h.c0
  have h1 := h.c1
  have h2 := h.b.row
  have hf := h.fz
  have hk16 : k < 16 := Nat.lt_of_lt_of_le hk (two_le4 d h.d4)
  have H := Lib.hid h
  have HK := Lib.hid hk
  have e1 : IntKind.i64.wrap ((k : Int) + 1) = ((k + 1 : Nat) : Int) := by rw [IntWalk.i64_in _ (by omega)]; omega
  clear h
  generalize 2 ^ d = n at h2 hk
  have d1 : ((k : Int) == (n : Int)) = false := beq_eq_false_iff_ne.2 (by omega)
  have d2 : ¬ k = n := by omega
  go_enter Tryd.func16, Tryd.ntmps16
  go_wp2_with fail
  go_quiet (fail)
  go_wp2
  go_ret
  exact ⟨rfl, ((Past.refl [R] w).drewN nq).store (.inl (by simp)) _, (H.out.drewN nq).more HK.out⟩
theorem rset_bad (R B G d k : Nat) (f : Nat → Nat) (t : Bool) (w : World) (h : QAt R B G d f k t w) (p i n : Int) (hp : NoSpan d p i ∨ n < 0) :
    Calls Tryd.prog 9 #[.pointer (some ⟨R, 0, none⟩), .int .i64 p, .int .i64 i, .int .i64 n] w fun x w' => x = .returned (.tuple #[.int .i64 0, .int .i64 1]) ∧ Below w.heap.size w w' := by
  have h0 := h.c0
  have c1 : Calls Tryd.prog 32 #[.pointer (some ⟨B, 0, none⟩), .int .i64 p, .int .i64 i, .int .i64 n] w fun x w' => x = .returned (.tuple #[.int .i64 0, .int .i64 1]) ∧ Below w.heap.size w w' := by
    rcases span_cases d h.b.d5 p i with hs | ⟨q, e, rfl, rfl, he, hq⟩
    · exact dir.rset_no B G d f w h.b p i n hs
    · rcases hp with hs | hn
      · exact dir.rset_no B G d f w h.b _ _ n hs
      · exact dir.rset_neg B G d f w h.b q e he hq n hn
  clear h hp
  go_enter Tryd.func9, Tryd.ntmps9
  go_wp2_with (go_at_call 32; refine c1.mono ?_; rintro e w1 ⟨rfl, hb⟩)
  go_ret2
  exact ⟨rfl, hb⟩
set_option maxRecDepth 20000 in
set_option maxHeartbeats 2000000 in
theorem rset_yes (R B G d k : Nat) (f : Nat → Nat) (t : Bool) (w : World) (h : QAt R B G d f k t w) (p e n : Nat) (he : e ≤ d) (hp : p < 2 ^ e) :
    Calls Tryd.prog 9 #[.pointer (some ⟨R, 0, none⟩), .int .i64 p, .int .i64 e, .int .i64 n] w fun x w' => x = .returned (.tuple #[.int .i64 (to d p e - fr d p e + 2 * (min (to d p e) k - fr d p e) : Nat), .int .i64 0]) ∧ Past [G] w w' ∧ QAt R B G d (setF f (fr d p e) (to d p e) n) k t w' := by
  have h0 := h.c0
  have c1 := dir.rset_yes B G d f w h.b p e n he hp
  have c2 := fun f W (hW : RAt B G d f W) => rspan_yes B G d f W hW p e he hp
  have hlt := fr_lt d p e
  have hle := to_le d p e he hp
  have h16 := two_le4 d h.d4
  have hk := h.kd
  have H := Lib.hid h
  generalize hx : fr d p e = x at c1 c2 hlt ⊢
  generalize hy : to d p e = y at c1 c2 hlt hle ⊢
  generalize hf : setF f x y n = f1 at c1 ⊢
  generalize hu : y - x = u at c1 ⊢
  generalize 2 ^ d = D at hle h16 hk
  clear h hx hy hf
  have huy : u ≤ 16 := by omega
  have HU := Lib.hid hu
  clear hu
  go_enter Tryd.func9, Tryd.ntmps9
  go_wp2_with (first
    | (go_at_call 32; refine c1.mono ?_; rintro e w1 ⟨rfl, hp1, hd1⟩; have h1 := H.out.setG hp1 hd1; have z1 := h1.c0)
    | (go_at_call 33; refine (c2 _ _ h1.b).mono ?_; rintro e w2 ⟨rfl, hb2⟩; have h2 := h1.below hb2; have z2 := h2.c1))
  have p2 := Lib.hid (hp1.trans (Past.of hb2))
  have H2 := Lib.hid h2
  clear h2 h1 z1 hp1 hd1 hb2 c1 c2 H h0
  go_loop [15, 10] (fun i s => ∃ j : Nat, x ≤ j ∧ j ≤ y ∧ i = .int .i64 j ∧ s = .int .i64 ((u + 2 * (min j k - x) : Nat) : Int)) (fun i _ => y - (intOf i).toNat)
  case atStart => exact ⟨x, Nat.le_refl _, by omega, rfl, by rw [show min x k - x = 0 by omega]; rfl⟩
  case round =>
    obtain ⟨j, hxj, hjy, rfl, rfl⟩ := hrel
    by_cases hlt : j < y
    · by_cases hjk : j < k
      · have e4 : ((u + 2 * (min j k - x) : Nat) : Int) + 2 = ((u + 2 * (min (j + 1) k - x) : Nat) : Int) := by omega
        have hb4 : u + 2 * (min j k - x) ≤ 64 := by omega
        generalize hv : u + 2 * (min j k - x) = v at e4 hb4
        have E4 := Lib.hid e4
        clear e4 hv
        have d1 : (j : Int) < (y : Int) := by omega
        have d2 : (j : Int) < (k : Int) := by omega
        go_wp2
        go_round
        case rel => exact ⟨j + 1, by omega, by omega, by simp, by rw [← E4.out]⟩
        case measure => simp [intOf]; omega
      · have e4 : min (j + 1) k - x = min j k - x := by omega
        have E4 := Lib.hid e4
        clear e4
        have d1 : (j : Int) < (y : Int) := by omega
        have d2 : ¬ (j : Int) < (k : Int) := by omega
        generalize hv : u + 2 * (min j k - x) = v
        have HV := Lib.hid hv
        clear hv
        go_wp2
        go_round
        case rel => exact ⟨j + 1, by omega, by omega, by simp, by rw [E4.out, HV.out]⟩
        case measure => simp [intOf]; omega
    · obtain rfl : j = y := by omega
      generalize hv : u + 2 * (min j k - x) = v
      have HV := Lib.hid hv
      clear hv
      go_wp2
      go_ret2
      exact ⟨by rw [show (u : Int) + 2 * ((min j k - x : Nat) : Int) = (v : Int) from by have h := HV.out; omega]; rfl, p2.out, H2.out⟩
theorem own_base {W : World} {base n : Nat} {v : Value} {l : List Value} (h : W.ownsRow base 3 1 v n l) : ∀ r, v.ownBlock = some r → base ≤ r := fun r e => by
  rcases h.2 with ⟨rfl, _⟩ | ⟨g, c, cur, rfl, hb, _⟩
  · simp [Value.ownBlock] at e
  · simp [Value.ownBlock] at e; omega
/-- the new entries, as the document lists them -/
def dbl (f : Nat → Nat) : Nat → Nat := fun j => f (j / 2)
theorem cells_two (f : Nat → Nat) (i : Nat) : cellsL (dbl f) (2 * (i + 1)) = cellsL (dbl f) (2 * i) ++ [.int .i64 (f i : Nat), .int .i64 (f i : Nat)] := by
  unfold cellsL dbl
  rw [show 2 * (i + 1) = 2 * i + 1 + 1 by omega, List.range_succ, List.range_succ, List.map_append, List.map_append]
  simp [show (2 * i + 1) / 2 = i by omega]
structure NewIn (f : Nat → Nat) (R B G d k : Nat) (t : Bool) (i : Nat) (v : Value) (w W : World) : Prop where
  own : W.ownsRow w.heap.size 3 1 v (2 * i) (cellsL (dbl f) (2 * i))
  below : Below w.heap.size w W
set_option maxRecDepth 20000 in
set_option maxHeartbeats 2000000 in
theorem rnew_any (R B G d k : Nat) (f : Nat → Nat) (t : Bool) (w : World) (h : QAt R B G d f k t w) :
    Calls Tryd.prog 14 #[.pointer (some ⟨R, 0, none⟩)] w fun e w' => ∃ g c, e = .returned (.slice (some ⟨g, 0, none⟩) (2 ^ (d + 1) : Nat) c) ∧ (∀ j, j < 2 ^ (d + 1) → w'.cell? ⟨g, j, none⟩ = some (.int .i64 (dbl f j : Nat))) ∧ Below w.heap.size w w' := by
  obtain ⟨i0, hi0, hq⟩ := Option.map_eq_some_iff.1 infoInt
  have hq0 : i0.zero = some (.int .i64 0) := congrArg Prod.fst hq
  have hq1 : i0.size = 1 := congrArg (fun x => x.2.1) hq
  have hq2 : i0.bytes = 8 := congrArg (fun x => x.2.2) hq
  have H := Lib.hid h
  have hz := fun W (hb : Below w.heap.size w W) => (h.below hb).c0
  have hy := fun W (hb : Below w.heap.size w W) => (h.below hb).b.row
  have hx := fun W (hb : Below w.heap.size w W) => (h.below hb).b.ent
  have hp := two_pos d
  have h16 := two_le4 d h.d4
  rw [two_next]
  clear h hq
  generalize 2 ^ d = n at hy hx hp h16 ⊢
  have hb0 := (Below.refl w.heap.size w).alloc (Nat.le_refl _) (.cells #[] 3)
  have z0 := hz _ hb0
  have y0 := hy _ hb0
  have hI : NewIn f R B G d k t 0 (.slice (some ⟨w.heap.size, 0, none⟩) 0 0) w (w.alloc (.cells #[] 3)) :=
    ⟨⟨rfl, .inr ⟨w.heap.size, 0, #[], rfl, Nat.le_refl _, heap_alloc_new w _, Nat.le_refl _, Nat.zero_le _, rfl, rfl⟩⟩, hb0⟩
  have HX := Lib.hid hx
  clear hx hy hz H
  go_enter Tryd.func14, Tryd.ntmps14
  go_wp2
  generalize w.alloc (.cells #[] 3) = W0 at hI hb0 z0 y0 ⊢
  go_loopw [15, 3] (fun i v W => ∃ j : Nat, j ≤ n ∧ i = .int .i64 j ∧ NewIn f R B G d k t j v w W) (fun i _ _ => n - (intOf i).toNat)
  case atStart => exact ⟨0, by omega, rfl, hI⟩
  case round =>
    obtain ⟨j, hj, rfl, hJ⟩ := hrel
    clear hI
    by_cases hlt : j < n
    · have hc := HX.out _ hJ.below j hlt
      have hB2 := hJ.below.alloc hJ.below.size (.cells #[.int .i64 (f j : Nat), .int .i64 (f j : Nat)] 3)
      have hO2 := Lib.hid (hJ.own.alloc (.cells #[.int .i64 (f j : Nat), .int .i64 (f j : Nat)] 3))
      have hbase := Lib.hid (own_base hJ.own)
      have hnew : ∀ i u, ([.int .i64 (f j : Nat), .int .i64 (f j : Nat)] : List Value)[i]? = some u → (wr.alloc (.cells #[.int .i64 (f j : Nat), .int .i64 (f j : Nat)] 3)).cell? ((⟨wr.heap.size, 0, none⟩ : Addr).add i) = some u := fun i u hu => by
        rw [addr_add]
        match i, hu with
        | 0, hu => rw [cell_alloc_row]; exact hu
        | 1, hu => rw [cell_alloc_row]; exact hu
        | i + 2, hu => simp at hu
      have HN := Lib.hid hnew
      have HB2 := Lib.hid hB2
      have d1 : (j : Int) < (n : Int) := by omega
      have hsz := hJ.below.size
      clear hJ hnew hB2 z0 y0 hb0
      have hc2 := Lib.hid (cells_two f j)
      generalize f j = x at *
      go_wp2_with (at_builtin; refine wpList_append_own _ rfl _ _ 22 rfl w.heap.size 3 i0 (.int .i64 0) 1 8 Tryd.underlying22 hi0 hq0 hq1 hq2 rfl (by decide) _ _ _ rfl hO2.out ⟨wr.heap.size, 0, none⟩ 2 2 [.int .i64 (x : Nat), .int .i64 (x : Nat)] rfl rfl HN.out (by simp [Value.oneCell']) (by simp only [maxLen]; omega) (by omega) (by simp; omega) ?_; intro v' w1 hown' hgrow _)
      have hB1 : Below w.heap.size w w1 := HB2.out.grown hgrow (by simp; omega) (fun r e => hbase.out r e)
      have hS : NewIn f R B G d k t (j + 1) v' w w1 := ⟨by rw [hc2.out]; exact hown', hB1⟩
      have HS := Lib.hid hS
      clear hown' hgrow hB1 hS
      go_wp2
      go_roundw
      case rel => exact ⟨j + 1, by omega, by simp, HS.out⟩
      case measure => simp [intOf]; omega
    · obtain rfl : j = n := by omega
      obtain ⟨g, c, rfl, h1, h2, h3, h4⟩ := list_at hJ.own (by omega)
      have hB := hJ.below
      clear hJ z0 y0 hb0 HX
      go_wp2
      go_ret
      exact ⟨g, c, rfl, h3, hB⟩
end Go.Proofs.YtmbdfoobnkanlaaDoor.copyist
