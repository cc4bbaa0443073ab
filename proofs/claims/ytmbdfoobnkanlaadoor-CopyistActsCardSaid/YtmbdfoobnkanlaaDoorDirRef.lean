/- DirRef: the document's directory: where it lies, and what its calls do. -/
import Derived.Test.YtmbdfoobnkanlaaDoorDir
namespace Go.Proofs.YtmbdfoobnkanlaaDoor.dir
open Go.ChangeShapes Go.WideShapes Go.ChangeAt Go.RowKit split trap errs
set_option linter.unusedSimpArgs false
set_option linter.unusedVariables false

/-- the document's directory: its block, and its row of entries -/
structure RAt (B g d : Nat) (f : Nat → Nat) (w : World) : Prop where
  d5 : d ≤ 5
  dep : w.cell? ⟨B, 0, none⟩ = some (.int .i64 d)
  row : w.cell? ⟨B, 1, none⟩ = some (.slice (some ⟨g, 0, none⟩) (2 ^ d : Nat) (2 ^ d : Nat))
  ent : ∀ j, j < 2 ^ d → w.cell? ⟨g, j, none⟩ = some (.int .i64 (f j : Nat))
  fz : ∀ i, w.frozen? ⟨g, i, none⟩ = false
  ne : B ≠ g
theorem RAt.lt {B g d : Nat} {f : Nat → Nat} {w : World} (h : RAt B g d f w) : B < w.heap.size := World.block_lt_of_cell? w _ h.dep
theorem RAt.lg {B g d : Nat} {f : Nat → Nat} {w : World} (h : RAt B g d f w) : g < w.heap.size := World.block_lt_of_cell? w _ (h.ent 0 (two_pos d))
theorem RAt.of_block {B g d : Nat} {f : Nat → Nat} {w w' : World} (h : RAt B g d f w) (he : w'.heap[B]? = w.heap[B]?) (hg : w'.heap[g]? = w.heap[g]?) : RAt B g d f w' :=
  ⟨h.d5, (World.cell?_of_block (w := w) he).trans h.dep, (World.cell?_of_block (w := w) he).trans h.row, fun j hj => (World.cell?_of_block (w := w) hg).trans (h.ent j hj), fun i => (World.frozen?_of_block (w := w) hg).trans (h.fz i), h.ne⟩
theorem RAt.below {B g d : Nat} {f : Nat → Nat} {w w' : World} (h : RAt B g d f w) (hb : Below w.heap.size w w') : RAt B g d f w' := h.of_block (hb.block B h.lt) (hb.block g h.lg)
theorem RAt.past {B g d : Nat} {f : Nat → Nat} {w w' : World} {l : List Nat} (h : RAt B g d f w) (hb : Past l w w') (hB : B ∉ l) (hg : g ∉ l) : RAt B g d f w' := h.of_block (hb.block B h.lt hB) (hb.block g h.lg hg)
theorem RAt.drew {B g d : Nat} {f : Nat → Nat} {w : World} (h : RAt B g d f w) : RAt B g d f w.drew := h.of_block rfl rfl
theorem RAt.drewN {B g d : Nat} {f : Nat → Nat} {w : World} (h : RAt B g d f w) (q : Nat) : RAt B g d f (w.drewN q) := h.of_block rfl rfl
theorem RAt.put {B g d : Nat} {f : Nat → Nat} {w : World} (h : RAt B g d f w) (i n : Nat) (hi : i < 2 ^ d) (f' : Nat → Nat) (hf : ∀ j, f' j = if j = i then n else f j) :
    RAt B g d f' (w.setCell ⟨g, i, none⟩ (.int .i64 (n : Nat))) := by
  refine ⟨h.d5, ?_, ?_, fun j hj => ?_, fun j => ?_, h.ne⟩
  · rw [World.cell?_setCell_other _ _ _ _ (by intro e; injection e with e _ _; exact h.ne e.symm)]; exact h.dep
  · rw [World.cell?_setCell_other _ _ _ _ (by intro e; injection e with e _ _; exact h.ne e.symm)]; exact h.row
  · by_cases e : j = i
    · subst e; rw [hf, if_pos rfl]; simp [World.cell?_setCell_same', h.ent j hi]
    · rw [World.cell?_setCell_other _ _ _ _ (by intro e'; injection e' with _ e' _; omega), hf, if_neg e]; exact h.ent j hj
  · simp [go_sem, h.fz]

theorem rnew_no (i : Int) (hi : i < 0 ∨ 5 < i) (w : World) :
    Calls Tryd.prog 25 #[.int .i64 i] w fun e w' => e = .returned (.tuple #[.pointer none, .int .i64 1]) ∧ w = w' := by
  rcases hi with h | h
  · have h1 : decide (i < 0) = true := decide_eq_true h
    go_enter Tryd.func25, Tryd.ntmps25
    go_wp2
    go_ret2
    exact ⟨rfl, rfl⟩
  · have h1 : decide (i < 0) = false := decide_eq_false (by omega)
    have h2 : decide (5 < i) = true := decide_eq_true h
    go_enter Tryd.func25, Tryd.ntmps25
    go_wp2
    go_ret2
    exact ⟨rfl, rfl⟩
theorem mk_ints (n : Nat) (hn : n ≤ 32) (w : World) : (Instr.makeSlice 22 (.int .i64 n) (.int .i64 n)).run Tryd.prog w = .ok (.slice (some ⟨w.heap.size, 0, none⟩) n n) (w.alloc (.cells (madeCells #[.int .i64 0] n) 3)) := by
  obtain ⟨i, hi, hq⟩ := Option.map_eq_some_iff.1 infoInt
  have h0 : i.zero = some (.int .i64 0) := congrArg Prod.fst hq
  have h1 : i.size = 1 := congrArg (fun x => x.2.1) hq
  have h2 : i.bytes = 8 := congrArg (fun x => x.2.2) hq
  have h := run_make (P := Tryd.prog) w 22 3 i (.int .i64 0) Tryd.underlying22 hi h0 .i64 .i64 n n (by omega) (by omega) (by rw [h2]; omega) (by omega)
  rw [h1] at h
  simpa [Value.cells] using h
theorem made_at (v : Value) (n k : Nat) (hk : k < n) : (madeCells #[v] n)[k]? = some v := by
  unfold madeCells
  rw [Array.getElem?_map, Array.getElem?_eq_getElem (by simpa using hk)]
  simp [Nat.mod_one]
theorem rnew_yes (d : Nat) (hd : d ≤ 5) (w : World) :
    Calls Tryd.prog 25 #[.int .i64 d] w fun e w' => e = .returned (.tuple #[.pointer (some ⟨w.heap.size + 1, 0, none⟩), .int .i64 0]) ∧ RAt (w.heap.size + 1) w.heap.size d (fun _ => 0) w' ∧ Below w.heap.size w w' := by
  have h1 : decide ((d : Int) < 0) = false := decide_eq_false (by omega)
  have h2 : decide (5 < (d : Int)) = false := decide_eq_false (by omega)
  have h32 := two_le d hd
  have hm := mk_ints (2 ^ d) h32
  go_enter Tryd.func25, Tryd.ntmps25
  go_wp2
  go_loop [5, 4] (fun i s => ∃ j : Nat, j ≤ d ∧ i = .int .i64 j ∧ s = .int .i64 ((2 ^ j : Nat) : Int)) (fun i _ => d - (intOf i).toNat)
  case atStart => exact ⟨0, by omega, rfl, rfl⟩
  case round =>
    obtain ⟨j, hj, rfl, rfl⟩ := hrel
    have hs := Lib.hid (pow2_step j d hj (by omega))
    rcases Nat.lt_or_ge j d with hjd | hjd
    · have hjd' : (j : Int) < (d : Int) := by omega
      generalize ((2 ^ j : Nat) : Int) = x at hs
      go_wp2
      go_round
      case rel => exact ⟨j + 1, by omega, by simp, by rw [hs.out]⟩
      case measure => simp [intOf]; omega
    · obtain rfl : j = d := by omega
      clear hs
      have hr : ∀ W : World, RAt (W.heap.size + 1) W.heap.size j (fun _ => 0) ((W.alloc (.cells (madeCells #[.int .i64 0] (2 ^ j)) 3)).alloc (.cells #[.int .i64 j, .slice (some ⟨W.heap.size, 0, none⟩) (2 ^ j : Nat) (2 ^ j : Nat)] 50)) := fun W => by
        have e := ((Below.refl W.heap.size (W.alloc (.cells (madeCells #[.int .i64 0] (2 ^ j)) 3))).alloc (by simp) (.cells #[.int .i64 j, .slice (some ⟨W.heap.size, 0, none⟩) (2 ^ j : Nat) (2 ^ j : Nat)] 50))
        have hz := World.size_alloc W (.cells (madeCells #[.int .i64 0] (2 ^ j)) 3)
        have c := cell_alloc_row (W.alloc (.cells (madeCells #[.int .i64 0] (2 ^ j)) 3)) #[.int .i64 j, .slice (some ⟨W.heap.size, 0, none⟩) (2 ^ j : Nat) (2 ^ j : Nat)] 50
        rw [hz] at c
        have hb : ((W.alloc (.cells (madeCells #[.int .i64 0] (2 ^ j)) 3)).alloc (.cells #[.int .i64 j, .slice (some ⟨W.heap.size, 0, none⟩) (2 ^ j : Nat) (2 ^ j : Nat)] 50)).heap[W.heap.size]? = (W.alloc (.cells (madeCells #[.int .i64 0] (2 ^ j)) 3)).heap[W.heap.size]? :=
          ((Below.refl (W.alloc (.cells (madeCells #[.int .i64 0] (2 ^ j)) 3)).heap.size (W.alloc (.cells (madeCells #[.int .i64 0] (2 ^ j)) 3))).alloc (Nat.le_refl _) _).block _ (by rw [hz]; omega)
        refine ⟨hd, c 0, c 1, fun k hk => ?_, fun i => ?_, by omega⟩
        · rw [World.cell?_of_block (w := W.alloc (.cells (madeCells #[.int .i64 0] (2 ^ j)) 3)) hb, cell_alloc_row]; exact made_at _ _ _ hk
        · rw [World.frozen?_of_block (w := W.alloc (.cells (madeCells #[.int .i64 0] (2 ^ j)) 3)) hb]; simp [go_sem]
      have HR := Lib.hid hr
      clear hr
      generalize hX : 2 ^ j = n at hm h32 HR
      clear hX
      go_wp2
      go_ret2
      exact ⟨rfl, HR.out _, ((Below.refl _ _).alloc (Nat.le_refl _) _).alloc (by simp) _⟩
theorem rspan_no (B g d : Nat) (f : Nat → Nat) (w : World) (h : RAt B g d f w) (p i : Int) (hp : NoSpan d p i) :
    Calls Tryd.prog 33 #[.pointer (some ⟨B, 0, none⟩), .int .i64 p, .int .i64 i] w fun x w' => x = .returned (.tuple #[.int .i64 0, .int .i64 0, .int .i64 1]) ∧ Below w.heap.size w w' := by
  by_cases hn : NoPrefix p i
  · have c := fun W => rends_no p i hn W
    go_enter Tryd.func33, Tryd.ntmps33
    go_wp2_with (go_at_call 45; refine (c _).mono ?_; rintro e w1 ⟨rfl, rfl⟩)
    go_ret3
    exact ⟨rfl, Below.refl _ _⟩
  · have hdi : (d : Int) < i := hp.resolve_right hn
    unfold NoPrefix at hn
    obtain ⟨e, rfl⟩ := Int.eq_ofNat_of_zero_le (show 0 ≤ i by omega)
    obtain ⟨q, rfl⟩ := Int.eq_ofNat_of_zero_le (show 0 ≤ p by omega)
    have hq : q < 2 ^ e := by
      have h2 : ¬ ((2 : Int) ^ ((e : Nat) : Int).toNat ≤ (q : Int)) := fun h2 => hn (.inr (.inr (.inr h2)))
      rw [Int.toNat_natCast, cast_pow] at h2
      omega
    have c := fun W => rends_yes q e (by omega) hq W
    generalize lowN q e + (2 ^ (64 - e) - 1) = u at c
    generalize lowN q e = v at c
    have hD := Lib.hid (fun W (hb : Below w.heap.size w W) => (h.below hb).dep)
    have h1 : decide ((d : Int) < (e : Int)) = true := decide_eq_true hdi
    have h1' : d < e := by omega
    clear hn hp hq h
    go_enter Tryd.func33, Tryd.ntmps33
    go_wp2_with (go_at_call 45; refine (c _).mono ?_; rintro e w1 ⟨rfl, hb1⟩; have r1 := hD.out _ hb1)
    go_ret3
    exact ⟨rfl, hb1⟩
theorem rspan_yes (B g d : Nat) (f : Nat → Nat) (w : World) (h : RAt B g d f w) (p e : Nat) (he : e ≤ d) (hp : p < 2 ^ e) :
    Calls Tryd.prog 33 #[.pointer (some ⟨B, 0, none⟩), .int .i64 p, .int .i64 e] w fun x w' => x = .returned (.tuple #[.int .i64 (fr d p e : Nat), .int .i64 (to d p e : Nat), .int .i64 0]) ∧ Below w.heap.size w w' := by
  have hd := h.d5
  have h1 : decide ((d : Int) < (e : Int)) = false := decide_eq_false (by omega)
  have h1' : ¬ d < e := by omega
  have c := fun W => rends_yes p e (by omega) hp W
  have hl := lowN_lt p e (by omega) hp
  have cA := fun W => rtop_yes (lowN p e) d (by omega) (by omega) W
  have cB := fun W => rtop_yes (lowN p e + (2 ^ (64 - e) - 1)) d hl (by omega) W
  rw [low_div d p e he (by omega)] at cA
  have hT := high_div d p e he (by omega)
  have hS := to_le d p e he hp
  have hS2 := two_le d hd
  have hD := Lib.hid (fun W (hb : Below w.heap.size w W) => (h.below hb).dep)
  generalize (lowN p e + (2 ^ (64 - e) - 1)) / 2 ^ (64 - d) = y at cB hT
  generalize lowN p e + (2 ^ (64 - e) - 1) = u at c cB
  generalize lowN p e = v at c cA
  have hy : wrap64 ((y : Int) + 1) = ((to d p e : Nat) : Int) := by rw [← hT]; exact i64_nat (y + 1) (by omega)
  generalize to d p e = z at hy
  generalize fr d p e = x at cA
  clear hT hS hS2 hl h hp
  go_enter Tryd.func33, Tryd.ntmps33
  go_wp2_with (first
    | (go_at_call 45; refine (c _).mono ?_; rintro e w1 ⟨rfl, hb1⟩; have r1 := hD.out _ hb1)
    | (go_at_call 46; (with_reducible refine (cA w1).mono ?_); rintro e w2 ⟨rfl, hb2⟩; have hb2' := under.below_step hb1 hb2; have r2 := hD.out _ hb2')
    | (go_at_call 46; (with_reducible refine (cB w2).mono ?_); rintro e w3 ⟨rfl, hb3⟩; have hb3' := under.below_step hb2' hb3))
  go_ret3
  exact ⟨by rw [hy]; rfl, hb3'⟩
theorem rset_no (B g d : Nat) (f : Nat → Nat) (w : World) (h : RAt B g d f w) (p i n : Int) (hp : NoSpan d p i) :
    Calls Tryd.prog 32 #[.pointer (some ⟨B, 0, none⟩), .int .i64 p, .int .i64 i, .int .i64 n] w fun x w' => x = .returned (.tuple #[.int .i64 0, .int .i64 1]) ∧ Below w.heap.size w w' := by
  have c := rspan_no B g d f w h p i hp
  clear h
  go_enter Tryd.func32, Tryd.ntmps32
  go_wp2_with (go_at_call 33; refine c.mono ?_; rintro e w1 ⟨rfl, hb1⟩)
  go_ret2
  exact ⟨rfl, hb1⟩
theorem rset_neg (B g d : Nat) (f : Nat → Nat) (w : World) (h : RAt B g d f w) (p e : Nat) (he : e ≤ d) (hp : p < 2 ^ e) (n : Int) (hn : n < 0) :
    Calls Tryd.prog 32 #[.pointer (some ⟨B, 0, none⟩), .int .i64 p, .int .i64 e, .int .i64 n] w fun x w' => x = .returned (.tuple #[.int .i64 0, .int .i64 1]) ∧ Below w.heap.size w w' := by
  have c := rspan_yes B g d f w h p e he hp
  generalize fr d p e = x at c
  generalize to d p e = y at c
  have h0 : decide (n < 0) = true := decide_eq_true hn
  clear h
  go_enter Tryd.func32, Tryd.ntmps32
  go_wp2_with (go_at_call 33; refine c.mono ?_; rintro e w1 ⟨rfl, hb1⟩)
  go_ret2
  exact ⟨rfl, hb1⟩
structure RSetOk (B g d : Nat) (f : Nat → Nat) (a j n : Nat) (w W : World) : Prop where
  at' : RAt B g d (setF f a j n) W
  past : Past [g] w W
theorem rset_yes (B g d : Nat) (f : Nat → Nat) (w : World) (h : RAt B g d f w) (p e n : Nat) (he : e ≤ d) (hp : p < 2 ^ e) :
    Calls Tryd.prog 32 #[.pointer (some ⟨B, 0, none⟩), .int .i64 p, .int .i64 e, .int .i64 n] w fun x w' => x = .returned (.tuple #[.int .i64 (to d p e - fr d p e : Nat), .int .i64 0]) ∧ Past [g] w w' ∧ RAt B g d (setF f (fr d p e) (to d p e) n) w' := by
  have cS := rspan_yes B g d f w h p e he hp
  have hlt := fr_lt d p e
  have hle := to_le d p e he hp
  have h32 := two_le d h.d5
  generalize fr d p e = x at cS hlt ⊢
  generalize to d p e = y at cS hlt hle ⊢
  have h0 : decide ((n : Int) < 0) = false := decide_eq_false (by omega)
  have hsub : (y : Int) - (x : Int) = ((y - x : Nat) : Int) := by omega
  have HS := Lib.hid hsub
  have HI := Lib.hid (fun W (hb : Below w.heap.size w W) => (⟨by rw [setF_none]; exact h.below hb, Past.of hb⟩ : RSetOk B g d f x x n w W))
  have hrow := fun W (hW : ∃ j, RSetOk B g d f x j n w W) => (hW.choose_spec).at'.row
  generalize hE : 2 ^ d = m at hle h32 hrow
  have hent := fun W j (hW : RSetOk B g d f x j n w W) (hj : j < m) => hW.at'.ent j (by omega)
  have hput := fun W j (hW : RSetOk B g d f x j n w W) (hxj : x ≤ j) (hj : j < m) => hW.at'.put j n (by omega) (setF f x (j + 1) n) (fun i => setF_next f x j n i hxj)
  have HR := Lib.hid hrow
  have HE := Lib.hid hent
  have HP := Lib.hid hput
  clear hsub h hrow hent hput hE
  go_enter Tryd.func32, Tryd.ntmps32
  go_wp2_with (go_at_call 33; refine cS.mono ?_; rintro e w1 ⟨rfl, hb1⟩; have hI := HI.out _ hb1)
  clear HI cS hb1
  go_loopw [13] (fun i W => ∃ j : Nat, x ≤ j ∧ j ≤ y ∧ i = .int .i64 j ∧ RSetOk B g d f x j n w W) (fun i _ => y - (intOf i).toNat)
  case atStart => exact ⟨x, Nat.le_refl _, by omega, rfl, hI⟩
  case round =>
    obtain ⟨j, hxj, hjy, rfl, hJ⟩ := hrel
    clear hI
    rcases Nat.lt_or_ge j y with hlt | hge
    · have hr := HR.out _ ⟨j, hJ⟩
      have hc := HE.out _ j hJ (by omega)
      have hf := hJ.at'.fz j
      have hj' : (j : Int) < (m : Int) := by omega
      have hj2 : (j : Int) < (y : Int) := by omega
      have hQ := Lib.hid (HP.out _ j hJ hxj (by omega))
      have hP := Lib.hid (hJ.past.store (p := ⟨g, j, none⟩) (.inl (by simp)) (.int .i64 (n : Nat)))
      clear hJ
      go_wp2
      go_roundw
      case rel => exact ⟨j + 1, by omega, by omega, by simp, hQ.out, hP.out⟩
      case measure => simp [intOf]; omega
    · obtain rfl : j = y := by omega
      have HJ := Lib.hid hJ
      clear hJ
      go_wp2
      go_ret2
      exact ⟨by rw [HS.out]; rfl, HJ.out.past, HJ.out.at'⟩
end Go.Proofs.YtmbdfoobnkanlaaDoor.dir
