/- SplitTells: the walk. -/
import Derived.Test.YtiohlgkdlaiofaaDoorSplitAlive
import Derived.Deep.RegionWith
import Derived.Deep.RegionHeld3
namespace Go.Proofs.YtiohlgkdlaiofaaDoor.split
open Go.ChangeShapes Go.WideShapes Go.ChangeAt Go.RowKit errs

/-- the two parts of a hash, out of its bits -/
theorem number_h1 (h : Nat) (hh : h < 18446744073709551616) (g : Nat) (W : World) (hg : W.heap[g]? = some (.cells (bitsA h) 24 (0, 0))) :
    Calls Tryd.prog 13 #[.slice (some ⟨g, 0, none⟩) 57 64] W fun e w' => e = .returned (.int .u64 ((h / 128 : Nat) : Int)) ∧ W = w' := by
  have c := number_any (bitN h) (some ⟨g, 0, none⟩) 57 64 W (by decide) (fun j _ => bitN_lt h j) (fun j hj => ⟨_, rfl, by rw [addr_add, Nat.zero_add]; exact bitsA_cell hg j (by omega)⟩)
  rw [num_h1 h hh] at c; exact c
theorem number_h2 (h : Nat) (g : Nat) (W : World) (hg : W.heap[g]? = some (.cells (bitsA h) 24 (0, 0))) :
    Calls Tryd.prog 13 #[.slice (some ⟨g, 57, none⟩) 7 7] W fun e w' => e = .returned (.int .u64 ((h % 128 : Nat) : Int)) ∧ W = w' := by
  have c := number_any (fun j => bitN h (57 + j)) (some ⟨g, 57, none⟩) 7 7 W (by decide) (fun j _ => bitN_lt h _) (fun j hj => ⟨_, rfl, by rw [addr_add]; exact bitsA_cell hg (57 + j) (by omega)⟩)
  rw [num_h2 h] at c; exact c
theorem number_h1q (h : Nat) (hh : h < 18446744073709551616) (g : Nat) (w : World) (n : Nat) (hg : w.heap[g]? = some (.cells (bitsA h) 24 (0, 0))) :
    Calls Tryd.prog 13 #[.slice (some ⟨g, 0, none⟩) 57 64] (w.drewN n) fun e w'' => e = .returned (.int .u64 ((h / 128 : Nat) : Int)) ∧ ∃ m, w'' = w.drewN m :=
  quiet_same (number_h1 h hh g (w.drewN n) hg)
theorem number_h2q (h : Nat) (g : Nat) (w : World) (n : Nat) (hg : w.heap[g]? = some (.cells (bitsA h) 24 (0, 0))) :
    Calls Tryd.prog 13 #[.slice (some ⟨g, 57, none⟩) 7 7] (w.drewN n) fun e w'' => e = .returned (.int .u64 ((h % 128 : Nat) : Int)) ∧ ∃ m, w'' = w.drewN m :=
  quiet_same (number_h2 h g (w.drewN n) hg)
set_option maxRecDepth 20000 in
theorem tells_yes (h d : Nat) (hh : h < 18446744073709551616) (hd : d ≤ 16) (w : World) :
    Calls Tryd.prog 3 #[.int .u64 h, .int .i64 d] w fun e w' => e = .returned (.bool true) ∧ Below w.heap.size w w' := by
  go_enter Tryd.func3, Tryd.ntmps3
  go_wp2_with (first
    | (go_at_call 6; refine (alive_any _).mono ?_; rintro e w' ⟨rfl, rfl⟩)
    | (go_at_call 7; refine (bits_any h hh _).mono ?_; rintro e w1 ⟨rfl, hb1⟩)
    | (refine wpList_store_row (by rfl) 24 _ _ (by rfl) w1.heap.size (bitsA h) (by rfl) (by rfl) 24 _ (heap_alloc_new _ _) (info64 _ (bitsA_size h)) (by rw [bitsA_size]; rfl) (bitsA_one h) ?_; rw [World.setRow_alloc_new])
    | (go_at_call 8; refine (top_yes h d hh hd _).mono ?_; rintro e w' ⟨rfl, rfl⟩)
    | (go_at_call 10; refine (bit_yes h d hh hd _).mono ?_; rintro e w' ⟨rfl, rfl⟩)
    | (go_at_call 9; refine (rtop_yes h d hh hd _).mono ?_; rintro e w2 ⟨rfl, hb2⟩)
    | (go_at_call 11; refine (rbit_yes h d hh hd _).mono ?_; rintro e w3 ⟨rfl, hb3⟩))
  have hrow : w3.heap[w1.heap.size]? = some (.cells (bitsA h) 24 (0, 0)) := by
    have hr := heap_alloc_new w1 (.cells (bitsA h) 24)
    have hlt := (Array.getElem?_eq_some_iff.1 hr).1
    have hs := hb2.size
    exact (hb3.block _ (by omega)).trans ((hb2.block _ hlt).trans hr)
  have HR := Lib.hid hrow
  clear hrow
  go_quiet ((first
    | (go_at_call 12; exact quiet_same (h1_any h _))
    | (go_at_call 14; exact quiet_same (h2_any h hh _))
    | (go_at_call 15; exact quiet_same (num_nil _))
    | (go_at_call 13; (with_reducible exact number_h1q h hh w1.heap.size _ _ HR.out))
    | (go_at_call 13; (with_reducible exact number_h2q h w1.heap.size _ _ HR.out))))
  go_wp2
  go_ret
  exact ⟨rfl, below_step hb1 (below_step ((Below.refl _ _).alloc (Nat.le_refl _) _) (below_step hb2 (below_step hb3 (drewN_below w3 nq))))⟩
theorem kept {h g : Nat} {a : String → Addr} {W W' : World} (hb : Below W.heap.size W W') (hS : W.heap[g]? = some (.cells (bitsA h) 24 (0, 0)) ∧ ErrsOk names a W) : W'.heap[g]? = some (.cells (bitsA h) 24 (0, 0)) ∧ ErrsOk names a W' :=
  ⟨(hb.block _ (Array.getElem?_eq_some_iff.1 hS.1).1).trans hS.1, hS.2.below hb⟩
set_option maxRecDepth 20000 in
theorem tells_no (h : Nat) (i : Int) (hh : h < 18446744073709551616) (hi : i < 0 ∨ 16 < i) (w : World) (a : String → Addr) (hE : ErrsOk names a w) :
    Calls Tryd.prog 3 #[.int .u64 h, .int .i64 i] w fun e w' => e = .returned (.bool true) ∧ Below w.heap.size w w' := by
  go_enter Tryd.func3, Tryd.ntmps3
  go_wp2_with (first
    | (go_at_call 6; refine (alive_any _).mono ?_; rintro e w' ⟨rfl, rfl⟩)
    | (go_at_call 7; refine (bits_any h hh _).mono ?_; rintro e w1 ⟨rfl, hb1⟩)
    | (refine wpList_store_row (by rfl) 24 _ _ (by rfl) w1.heap.size (bitsA h) (by rfl) (by rfl) 24 _ (heap_alloc_new _ _) (info64 _ (bitsA_size h)) (by rw [bitsA_size]; rfl) (bitsA_one h) ?_; rw [World.setRow_alloc_new])
    | (go_at_call 8; refine (top_no h i hi _ _ ((hE.below (hb1.alloc hb1.size _)).at gErrRange (nm_mem (i := 0) (by decide)))).mono ?_; rintro e w' ⟨rfl, q1, rfl⟩)
    | (go_at_call 10; refine (bit_no h i hi _ _ (((hE.below (hb1.alloc hb1.size _)).drewN q1).at gErrRange (nm_mem (i := 0) (by decide)))).mono ?_; rintro e w' ⟨rfl, q2, rfl⟩)
    | (go_at_call 9; refine (rtop_no h i hi _).mono ?_; rintro e w' ⟨rfl, rfl⟩)
    | (go_at_call 11; refine (rbit_no h i hi _).mono ?_; rintro e w' ⟨rfl, rfl⟩))
  have hb2 := drewN_below (w1.alloc (.cells (bitsA h) 24)) (q1 + q2)
  have hS := kept (h := h) (a := a) hb2 ⟨heap_alloc_new w1 _, hE.below (hb1.alloc hb1.size _)⟩
  have hb3 : Below w.heap.size w ((w1.alloc (.cells (bitsA h) 24)).drewN (q1 + q2)) := below_step (hb1.alloc hb1.size _) hb2
  generalize (w1.alloc (.cells (bitsA h) 24)).drewN (q1 + q2) = w3 at hS hb3
  clear hb2 hE hb1
  have c1 := fun W => h1_any h W
  have c2 := fun W => h2_any h hh W
  have c3 := fun W hW => number_h1 h hh w1.heap.size W hW
  have c4 := fun W hW => number_h2 h w1.heap.size W hW
  have hy := Nat.mod_lt h (show 128 > 0 by decide)
  generalize h / 128 = x at c1 c3
  generalize h % 128 = y at c2 c4 hy
  have hw : IntKind.u64.wrap ((y : Nat) : Int) = ((y : Nat) : Int) := by rw [IntKind.wrap_u64]; omega
  go_region_held3 (fun w' => w'.heap[w1.heap.size]? = some (.cells (bitsA h) 24 (0, 0)) ∧ ErrsOk names a w')
    (first | exact ⟨And.left (by assumption), errs_drew (And.right (by assumption))⟩ | exact kept hbx (by assumption) | go_keep)
    (first
      | (go_at_call 12; refine (c1 _).mono ?_; rintro e w' ⟨rfl, rfl⟩)
      | (go_at_call 14; refine (c2 _).mono ?_; rintro e w' ⟨rfl, rfl⟩)
      | (go_at_call 15; refine Calls.mono (num_range a _ (And.right (by assumption))) ?_; rintro e w' ⟨rfl, hbx⟩)
      | (go_at_call 13; (with_reducible refine Calls.mono (c3 _ (And.left (by assumption))) ?_); rintro e w' ⟨rfl, rfl⟩)
      | (go_at_call 13; (with_reducible refine Calls.mono (c4 _ (And.left (by assumption))) ?_); rintro e w' ⟨rfl, rfl⟩))
  go_wp2
  go_ret
  exact ⟨rfl, below_step hb3 (below_step (below_drew (by assumption)) (by assumption))⟩
theorem tells_any (h : Nat) (i : Int) (hh : h < 18446744073709551616) (w : World) (a : String → Addr) (hE : ErrsOk names a w) :
    Calls Tryd.prog 3 #[.int .u64 h, .int .i64 i] w fun e w' => e = .returned (.bool true) ∧ Below w.heap.size w w' := by
  by_cases hi : i < 0 ∨ 16 < i
  · exact tells_no h i hh hi w a hE
  · obtain ⟨d, rfl⟩ := Int.eq_ofNat_of_zero_le (show 0 ≤ i by omega)
    exact tells_yes h d hh (by omega) w
end Go.Proofs.YtiohlgkdlaiofaaDoor.split
