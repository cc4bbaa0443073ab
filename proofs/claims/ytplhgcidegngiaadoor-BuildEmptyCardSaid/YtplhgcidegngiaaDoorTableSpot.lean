/- table: the contracts of a spot's methods. -/
import Derived.Test.YtplhgcidegngiaaDoorTableFns
namespace Go.Proofs.YtplhgcidegngiaaDoor.table
open Go.ChangeShapes Go.WideShapes Go.ChangeAt Go.RowKit swar under trap meter group probe lens tail call
attribute [local go_sem] Oper.semAt_some stage.pureUpon move.stepUpon
set_option linter.unusedSimpArgs false
set_option linter.unusedVariables false

/-- the errors of a table's methods, in their variables -/
structure Errs6 (a : String → Addr) (w : World) : Prop where
  two : Errs2 a w
  full : w.cell? ⟨6, 0, none⟩ = some (errs.errV (a "ambler/api.ErrFull"))
  none : w.cell? ⟨3, 0, Option.none⟩ = some (errs.errV (a "ambler/api.ErrNone"))
  kind : w.cell? ⟨5, 0, Option.none⟩ = some (errs.errV (a "ambler/api.ErrKind"))
  dup : w.cell? ⟨4, 0, Option.none⟩ = some (errs.errV (a "ambler/api.ErrDup"))
theorem Errs6.below {a : String → Addr} {w W : World} (h : Errs6 a w) (hb : Below w.heap.size w W) : Errs6 a W :=
  ⟨h.two.below hb, keepc hb h.full, keepc hb h.none, keepc hb h.kind, keepc hb h.dup⟩
/-- the blocks lie behind the program's variables -/
def Far (d : List Nat) : Prop := ∀ b ∈ d, 17 ≤ b
theorem Far.no {d : List Nat} (h : Far d) {g : Nat} (hg : g < 17) : g ∉ d := fun e => by have := h g e; omega
theorem tab_past {d : List Nat} {w w' : World} (h : TabOk w) (hp : Past d w w') (hd : Far d) : TabOk w' :=
  have c : ∀ {i v}, w.cell? ⟨16, i, Option.none⟩ = some v → w'.cell? ⟨16, i, Option.none⟩ = some v := fun hc => hp.cell hc (hd.no (by decide))
  ⟨c h.1, c h.2.1, c h.2.2.1, c h.2.2.2.1, c h.2.2.2.2.1, c h.2.2.2.2.2.1, c h.2.2.2.2.2.2.1, c h.2.2.2.2.2.2.2⟩
theorem Errs6.past {a : String → Addr} {d : List Nat} {w w' : World} (h : Errs6 a w) (hp : Past d w w') (hd : Far d) : Errs6 a w' :=
  ⟨⟨hp.cell h.two.range (hd.no (by decide)), hp.cell h.two.state (hd.no (by decide))⟩, hp.cell h.full (hd.no (by decide)), hp.cell h.none (hd.no (by decide)), hp.cell h.kind (hd.no (by decide)), hp.cell h.dup (hd.no (by decide))⟩
theorem must_bool (b : Bool) (w : World) : Calls Tryd.prog 66 #[.bool b, .nilIface] w fun e w' => e = .returned (.bool b) ∧ w = w' := by
  go_enter Tryd.func66, Tryd.ntmps66
  go_wp2_with (go_at_call 23; refine (raise_nil _).mono ?_; rintro e w' ⟨rfl, rfl⟩)
  go_ret
  exact ⟨rfl, rfl⟩
theorem Tb.Ok.bounds {t : Tb} (h : t.Ok) : 0 ≤ t.len ∧ t.len ≤ 512 ∧ 0 ≤ t.tombs ∧ t.tombs ≤ 512 := by
  have hn := okN_le h.n
  have h1 := h.len
  have h2 := h.tombs
  have h3 := cntT_le 3 t
  have h4 := cntT_le 2 t
  omega
set_option maxRecDepth 20000 in
theorem place_any (a : String → Addr) (T B : Nat) (t : Tb) (ht : t.Ok) (b k key v h : Nat) (hb : b < t.n) (hk : k < 8) (h3 : (t.gs b k).kind ≠ 3) (hh : h < 18446744073709551616) (w : World) (hT : TAt T B t w) (hE : Errs2 a w) :
    Calls Tryd.prog 47 #[.pointer (some ⟨T, 0, none⟩), .agg #[.pointer (some ⟨B, b * 25, none⟩)], .int .i64 k, group.entV key v h] w fun e w' => e = .returned (.tuple #[]) ∧ TStep T B (t.put b k ⟨3, key, v, h⟩) w w' := by
  obtain ⟨b1, b2, b3, b4⟩ := ht.bounds
  have e1 : IntKind.i64.wrap (t.len + 1) = t.len + 1 := IntWalk.i64_in _ (by omega)
  have e2 : IntKind.i64.wrap (t.tombs - 1) = t.tombs - 1 := IntWalk.i64_in _ (by omega)
  have hlt := hT.lt
  have c := fun W (hbl : Below w.heap.size w W) => put_free B (b * 25) (t.gs b) k key v h hh hk (ht.gs b) (is_not' h3) W ((hT.below hbl).gs b hb) _ (hE.below hbl).state
  have hb2 := two_new w (.cells #[.pointer (some ⟨B, b * 25, none⟩)] 62) (.cells #[.int .u64 (key : Nat), .int .u64 (v : Nat), .int .u64 (h : Nat)] 47)
  have HT := Lib.hid (hT.below hb2)
  have hS := TStep.of hT hb2
  have hput : t.put b k ⟨3, key, v, h⟩ = ⟨t.n, upd t.gs b ((t.gs b).put k ⟨3, key, v, h⟩), t.len + 1, if is 2 (t.gs b) k = true then t.tombs - 1 else t.tombs⟩ := rfl
  rw [hput]
  generalize (t.gs b).put k ⟨3, key, v, h⟩ = g' at *
  cases hi : is 2 (t.gs b) k
  · rw [hi] at c
    go_enter Tryd.func47, Tryd.ntmps47
    go_wp2_with (first
      | (go_at_call 67; refine (c _ hb2).mono ?_; rintro e w' ⟨rfl, hs⟩; have hT2 := HT.out.gstep hs; have k1 := hT2.len; have k3 := hT2.fz 1)
      | (go_at_call 66; refine (must_bool _ _).mono ?_; rintro e w' ⟨rfl, rfl⟩))
    go_end0
    exact ⟨rfl, (hS.trans (.of_g HT.out hs)).store 1 _ (hT2.setLen _)⟩
  · rw [hi] at c
    go_enter Tryd.func47, Tryd.ntmps47
    go_wp2_with (first
      | (go_at_call 67; refine (c _ hb2).mono ?_; rintro e w' ⟨rfl, hs⟩; have hT2 := HT.out.gstep hs; have k1 := hT2.len; have k2 := hT2.tombs; have k3 := hT2.fz 1; have k4 := hT2.fz 2)
      | (go_at_call 66; refine (must_bool _ _).mono ?_; rintro e w' ⟨rfl, rfl⟩))
    go_end0
    exact ⟨rfl, ((hS.trans (.of_g HT.out hs)).store 2 _ (hT2.setTombs _)).store 1 _ ((hT2.setTombs _).setLen _)⟩
/-- a spot in a box -/
structure SBox (X T B key h a b : Nat) (w : World) : Prop where
  c0 : w.cell? ⟨X, 0, none⟩ = some (.pointer (some ⟨T, 0, none⟩))
  c1 : w.cell? ⟨X, 1, none⟩ = some (.int .u64 (key : Nat))
  c2 : w.cell? ⟨X, 2, none⟩ = some (.int .u64 (h : Nat))
  c3 : w.cell? ⟨X, 3, none⟩ = some (.pointer (some ⟨B, a * 25, none⟩))
  c4 : w.cell? ⟨X, 4, none⟩ = some (.pointer (some ⟨B, b * 25, none⟩))
theorem SBox.new (T B key h a b : Nat) (w : World) : SBox w.heap.size T B key h a b (w.alloc (.cells #[.pointer (some ⟨T, 0, none⟩), .int .u64 (key : Nat), .int .u64 (h : Nat), .pointer (some ⟨B, a * 25, none⟩), .pointer (some ⟨B, b * 25, none⟩)] 68)) := by
  have hr := World.alloc_heap_new w (.cells #[.pointer (some ⟨T, 0, none⟩), .int .u64 (key : Nat), .int .u64 (h : Nat), .pointer (some ⟨B, a * 25, none⟩), .pointer (some ⟨B, b * 25, none⟩)] 68)
  constructor <;> (rw [cell_of_row _ _ _ _ _ _ hr]; rfl)
theorem SBox.keep {X T B key h a b : Nat} {w w' : World} (s : SBox X T B key h a b w) (hb : Below w.heap.size w w') : SBox X T B key h a b w' := ⟨keepc hb s.c0, keepc hb s.c1, keepc hb s.c2, keepc hb s.c3, keepc hb s.c4⟩
theorem SBox.lt {X T B key h a b : Nat} {w : World} (s : SBox X T B key h a b w) : X < w.heap.size := World.block_lt_of_cell? w _ s.c0
theorem SBox.past {X T B key h a b : Nat} {w w' : World} {d : List Nat} (s : SBox X T B key h a b w) (hp : Past d w w') (hX : X ∉ d) : SBox X T B key h a b w' := ⟨hp.cell s.c0 hX, hp.cell s.c1 hX, hp.cell s.c2 hX, hp.cell s.c3 hX, hp.cell s.c4 hX⟩
/-- a spot's box and a second one -/
theorem SBox.two (T B key h a b : Nat) (w : World) (v : Value) (t : TypeId) :
    SBox w.heap.size T B key h a b ((w.alloc (.cells #[.pointer (some ⟨T, 0, none⟩), .int .u64 (key : Nat), .int .u64 (h : Nat), .pointer (some ⟨B, a * 25, none⟩), .pointer (some ⟨B, b * 25, none⟩)] 68)).alloc (.cells #[v] t)) ∧
    Var (w.heap.size + 1) v ((w.alloc (.cells #[.pointer (some ⟨T, 0, none⟩), .int .u64 (key : Nat), .int .u64 (h : Nat), .pointer (some ⟨B, a * 25, none⟩), .pointer (some ⟨B, b * 25, none⟩)] 68)).alloc (.cells #[v] t)) ∧
    Below w.heap.size w ((w.alloc (.cells #[.pointer (some ⟨T, 0, none⟩), .int .u64 (key : Nat), .int .u64 (h : Nat), .pointer (some ⟨B, a * 25, none⟩), .pointer (some ⟨B, b * 25, none⟩)] 68)).alloc (.cells #[v] t)) := by
  have h2 := Var.new (w.alloc (.cells #[.pointer (some ⟨T, 0, none⟩), .int .u64 (key : Nat), .int .u64 (h : Nat), .pointer (some ⟨B, a * 25, none⟩), .pointer (some ⟨B, b * 25, none⟩)] 68)) v t
  rw [World.size_alloc] at h2
  exact ⟨(SBox.new T B key h a b w).keep (new_block _ _), h2, two_new w _ _⟩
set_option maxRecDepth 20000 in
/-- where the key stands: it was found at the search's end -/
theorem stands_yes (T B : Nat) (t : Tb) (ht : t.Ok) (key h a b k : Nat) (ha : a < t.n) (hh : h < 18446744073709551616) (hf : find key h (t.gs a) = (k : Nat)) (w : World) (hT : TAt T B t w) (hX : TabOk w) :
    Calls Tryd.prog 43 #[spotV T B key h a b] w fun e w' => e = .returned (.tuple #[.agg #[.pointer (some ⟨B, a * 25, none⟩)], .int .i64 k]) ∧ Below w.heap.size w w' := by
  have c1 := nowhere_any T B key h a b
  have c2 := fun W (hb : Below w.heap.size w W) => find_any B (a * 25) (t.gs a) key h hh (ht.gs a) W ((hT.below hb).gs a ha) (hX.below hb hX.lt)
  rw [hf] at c2
  have d1 : decide (0 ≤ ((k : Nat) : Int)) = true := decide_eq_true (by omega)
  obtain ⟨hS, hV, hB⟩ := SBox.two T B key h a b w (.pointer none) 62
  go_enter Tryd.func43, Tryd.ntmps43
  go_wp2_with (first
    | (go_at_call 62; refine (c1 _).mono ?_; rintro e w1 ⟨rfl, hb1⟩; have hS1 := hS.keep hb1; have hV1 := hV.below hb1; have hB1 := under.below_step hB hb1; have x1 := hS1.c1; have x2 := hS1.c2; have x3 := hS1.c3)
    | (go_at_call 42; refine (c2 _ hB1).mono ?_; rintro e w2 ⟨rfl, hb2⟩; have y3 := (hS1.keep hb2).c3; have y4 := (hV1.below hb2).cell; have y5 := (hV1.below hb2).frozen; have hB2 := under.below_step hB1 hb2))
  exact bodyPost_ret (v := .tuple #[.agg #[.pointer (some ⟨B, a * 25, none⟩)], .int .i64 k]) (by simp [results, Tryd.results43, go_sem, y4]) rfl ⟨rfl, hB2.setCell (by simp) _⟩
set_option maxRecDepth 20000 in
theorem stands_no (T B : Nat) (t : Tb) (ht : t.Ok) (key h a b : Nat) (ha : a < t.n) (hb' : b < t.n) (hh : h < 18446744073709551616) (hf : find key h (t.gs a) = -1) (hf2 : find key h (t.gs b) = -1) (w : World) (hT : TAt T B t w) (hX : TabOk w) :
    Calls Tryd.prog 43 #[spotV T B key h a b] w fun e w' => e = .returned (.tuple #[.agg #[.pointer (some ⟨B, b * 25, none⟩)], .int .i64 (-1)]) ∧ Below w.heap.size w w' := by
  have c1 := nowhere_any T B key h a b
  have c2 := fun W (hb : Below w.heap.size w W) => find_any B (a * 25) (t.gs a) key h hh (ht.gs a) W ((hT.below hb).gs a ha) (hX.below hb hX.lt)
  rw [hf] at c2
  have c3 := fun W (hb : Below w.heap.size w W) => find_any B (b * 25) (t.gs b) key h hh (ht.gs b) W ((hT.below hb).gs b hb') (hX.below hb hX.lt)
  rw [hf2] at c3
  obtain ⟨hS, hV, hB⟩ := SBox.two T B key h a b w (.pointer none) 62
  go_enter Tryd.func43, Tryd.ntmps43
  go_wp2_with (first
    | (go_at_call 62; refine (c1 _).mono ?_; rintro e w1 ⟨rfl, hb1⟩; have hS1 := hS.keep hb1; have hV1 := hV.below hb1; have hB1 := under.below_step hB hb1; have x1 := hS1.c1; have x2 := hS1.c2; have x3 := hS1.c3)
    | (go_at_call 42; refine (c2 _ hB1).mono ?_; rintro e w2 ⟨rfl, hb2⟩; have hS2 := hS1.keep hb2; have hV2 := hV1.below hb2; have hB2 := under.below_step hB1 hb2; clear x1 x2 x3))
  have c4 := fun n : Under w2 => c3 n.W (under.below_step hB2 n.below)
  have u1 := Under.cell hS2.c1
  have u2 := Under.cell hS2.c2
  have u4 := Under.cell hS2.c4
  refine wp_region_tail_under 9 (by kernel_rfl) (by kernel_rfl) ?_
  simp only [List.take_succ_cons, List.take_zero, List.drop_succ_cons, List.drop_zero]
  repeat (quiet_step ((go_at_call 42; exact under_call (c4 _))))
  refine wpQuiet_nil ?_
  intro w4 hw4
  obtain ⟨n4, rfl⟩ := hw4
  have hB4 := under.below_step hB2 n4.below
  have hV4 := hV2.below n4.below
  have y4 := hV4.cell
  have y5 := hV4.frozen
  go_wp2
  exact bodyPost_ret (v := .tuple #[.agg #[.pointer (some ⟨B, b * 25, none⟩)], .int .i64 (-1)]) (by simp [results, Tryd.results43, go_sem, y4]) rfl ⟨rfl, hB4.setCell (by simp) _⟩
/-- an entry in a box -/
structure EBox (X k v h : Nat) (w : World) : Prop where
  c0 : w.cell? ⟨X, 0, none⟩ = some (.int .u64 (k : Nat))
  c1 : w.cell? ⟨X, 1, none⟩ = some (.int .u64 (v : Nat))
  c2 : w.cell? ⟨X, 2, none⟩ = some (.int .u64 (h : Nat))
  fz : ∀ i, w.frozen? ⟨X, i, none⟩ = false
theorem EBox.new (k v h : Nat) (w : World) : EBox w.heap.size k v h (w.alloc (.cells #[.int .u64 (k : Nat), .int .u64 (v : Nat), .int .u64 (h : Nat)] 47)) := by
  have hr := World.alloc_heap_new w (.cells #[.int .u64 (k : Nat), .int .u64 (v : Nat), .int .u64 (h : Nat)] 47)
  refine ⟨?_, ?_, ?_, fun i => frozen_of_row _ _ i _ _ hr⟩ <;> (rw [cell_of_row _ _ _ _ _ _ hr]; rfl)
theorem EBox.lt {X k v h : Nat} {w : World} (s : EBox X k v h w) : X < w.heap.size := World.block_lt_of_cell? w _ s.c0
theorem EBox.of_block {X k v h : Nat} {w w' : World} (s : EBox X k v h w) (he : w'.heap[X]? = w.heap[X]?) : EBox X k v h w' :=
  ⟨(World.cell?_of_block (w := w) he).trans s.c0, (World.cell?_of_block (w := w) he).trans s.c1, (World.cell?_of_block (w := w) he).trans s.c2, fun i => (World.frozen?_of_block (w := w) he).trans (s.fz i)⟩
theorem EBox.keep {X k v h : Nat} {w w' : World} (s : EBox X k v h w) (hb : Below w.heap.size w w') : EBox X k v h w' := s.of_block (hb.block X s.lt)
theorem EBox.past {X k v h : Nat} {w w' : World} {d : List Nat} (s : EBox X k v h w) (hp : Past d w w') (hX : X ∉ d) : EBox X k v h w' := s.of_block (hp.block X s.lt hX)
abbrev boxS (T B key h a b : Nat) (w : World) : World := w.alloc (.cells #[.pointer (some ⟨T, 0, none⟩), .int .u64 (key : Nat), .int .u64 (h : Nat), .pointer (some ⟨B, a * 25, none⟩), .pointer (some ⟨B, b * 25, none⟩)] 68)
theorem EBox.second (k v h : Nat) (w : World) (o : Obj) : EBox (w.heap.size + 1) k v h ((w.alloc o).alloc (.cells #[.int .u64 (k : Nat), .int .u64 (v : Nat), .int .u64 (h : Nat)] 47)) := by
  have := EBox.new k v h (w.alloc o)
  rwa [World.size_alloc] at this
set_option maxRecDepth 20000 in
theorem entry_yes (ae : String → Addr) (T B : Nat) (t : Tb) (ht : t.Ok) (key h a b k : Nat) (ha : a < t.n) (hk : k < 8) (h3 : (t.gs a k).kind = 3) (hh : h < 18446744073709551616) (hf : find key h (t.gs a) = (k : Nat)) (w : World) (hT : TAt T B t w) (hX : TabOk w) (hE : Errs2 ae w) :
    Calls Tryd.prog 45 #[spotV T B key h a b] w fun e w' => e = .returned (.tuple #[group.entV (t.gs a k).key (t.gs a k).val (t.gs a k).hash, .bool true]) ∧ Below w.heap.size w w' := by
  have c1 := fun W (hb : Below w.heap.size w W) => stands_yes T B t ht key h a b k ha hh hf W (hT.below hb) (hX.below hb hX.lt)
  have c2 := fun W (hb : Below w.heap.size w W) => at_is B (a * 25) (t.gs a) k hk (ht.gs a) W ((hT.below hb).gs a ha) _ (hE.below hb).state
  rw [is_of h3] at c2
  have d1 : decide (((k : Nat) : Int) < 0) = false := decide_eq_false (by omega)
  generalize t.gs a k = sl at *
  have hV := EBox.second 0 0 0 w (.cells #[.pointer (some ⟨T, 0, none⟩), .int .u64 (key : Nat), .int .u64 (h : Nat), .pointer (some ⟨B, a * 25, none⟩), .pointer (some ⟨B, b * 25, none⟩)] 68)
  go_enter Tryd.func45, Tryd.ntmps45
  go_wp2_with (first
    | (go_at_call 43; refine (c1 _ (two_new w _ _)).mono ?_; rintro e w1 ⟨rfl, hb1⟩; have hB1 := under.below_step (two_new w _ _) hb1)
    | (go_at_call 64; refine (c2 _ (under.below_step hB1 (new_block _ _))).mono ?_; rintro e w2 ⟨rfl, hb2⟩; have hB3 := under.below_step (new_block _ _) hb2; have hB2 := under.below_step hB1 hB3; have hV2 := (hV.keep hb1).keep hB3; have y0 := hV2.c0; have y1 := hV2.c1; have y2 := hV2.c2; have y3 := hV2.fz))
  exact bodyPost_ret (v := .tuple #[group.entV sl.key sl.val sl.hash, .bool true]) (by simp [results, Tryd.results45, go_sem, y0, y1, y2]) rfl ⟨rfl, ((hB2.setCell (by simp) _).setCell (by simp) _).setCell (by simp) _⟩
set_option maxRecDepth 20000 in
theorem entry_no (T B : Nat) (t : Tb) (ht : t.Ok) (key h a b : Nat) (ha : a < t.n) (hb' : b < t.n) (hh : h < 18446744073709551616) (hf : find key h (t.gs a) = -1) (hf2 : find key h (t.gs b) = -1) (w : World) (hT : TAt T B t w) (hX : TabOk w) :
    Calls Tryd.prog 45 #[spotV T B key h a b] w fun e w' => e = .returned (.tuple #[group.entV 0 0 0, .bool false]) ∧ Below w.heap.size w w' := by
  have c1 := fun W (hb : Below w.heap.size w W) => stands_no T B t ht key h a b ha hb' hh hf hf2 W (hT.below hb) (hX.below hb hX.lt)
  have hV := EBox.second 0 0 0 w (.cells #[.pointer (some ⟨T, 0, none⟩), .int .u64 (key : Nat), .int .u64 (h : Nat), .pointer (some ⟨B, a * 25, none⟩), .pointer (some ⟨B, b * 25, none⟩)] 68)
  go_enter Tryd.func45, Tryd.ntmps45
  go_wp2_with (go_at_call 43; refine (c1 _ (two_new w _ _)).mono ?_; rintro e w1 ⟨rfl, hb1⟩; have hB1 := under.below_step (two_new w _ _) hb1; have hV2 := (hV.keep hb1).keep (new_block w1 (.cells #[.pointer (some ⟨B, b * 25, none⟩)] 62)); have y0 := hV2.c0; have y1 := hV2.c1; have y2 := hV2.c2; have y3 := hV2.fz)
  exact bodyPost_ret (v := .tuple #[group.entV 0 0 0, .bool false]) (by simp [results, Tryd.results45, go_sem, y0, y1, y2]) rfl ⟨rfl, (((under.below_step hB1 (new_block _ _)).setCell (by simp) _).setCell (by simp) _).setCell (by simp) _⟩
set_option maxRecDepth 20000 in
theorem replace_yes (ae : String → Addr) (T B : Nat) (t : Tb) (ht : t.Ok) (key h a b k v : Nat) (ha : a < t.n) (hk : k < 8) (h3 : (t.gs a k).kind = 3) (hh : h < 18446744073709551616) (hf : find key h (t.gs a) = (k : Nat)) (w : World) (hT : TAt T B t w) (hX : TabOk w) (hE : Errs2 ae w) :
    Calls Tryd.prog 27 #[spotV T B key h a b, .int .u64 v] w fun e w' => e = .returned .nilIface ∧ TStep T B (t.val a k v) w w' := by
  have c1 := fun W (hb : Below w.heap.size w W) => stands_yes T B t ht key h a b k ha hh hf W (hT.below hb) (hX.below hb hX.lt)
  have c2 := fun W (hb : Below w.heap.size w W) => val_full B (a * 25) (t.gs a) k v hk (ht.gs a) (is_of h3) W ((hT.below hb).gs a ha) _ (hE.below hb).state
  have d1 : decide (((k : Nat) : Int) < 0) = false := decide_eq_false (by omega)
  have hval : t.val a k v = ⟨t.n, upd t.gs a ((t.gs a).put k { t.gs a k with val := v }), t.len, t.tombs⟩ := rfl
  rw [hval]
  generalize (t.gs a).put k { t.gs a k with val := v } = g' at *
  go_enter Tryd.func27, Tryd.ntmps27
  go_wp2_with (first
    | (go_at_call 43; refine (c1 _ (new_block w _)).mono ?_; rintro e w1 ⟨rfl, hb1⟩; have hB1 := under.below_step (new_block w _) hb1; have hB3 := under.below_step hB1 (new_block w1 (.cells #[.pointer (some ⟨B, a * 25, none⟩)] 62)))
    | (go_at_call 44; refine (c2 _ hB3).mono ?_; rintro e w2 ⟨rfl, hs⟩))
  go_ret
  exact ⟨rfl, (TStep.of hT hB3).trans (.of_g (hT.below hB3) hs)⟩
set_option maxRecDepth 20000 in
theorem replace_no (ae : String → Addr) (T B : Nat) (t : Tb) (ht : t.Ok) (key h a b v : Nat) (ha : a < t.n) (hb' : b < t.n) (hh : h < 18446744073709551616) (hf : find key h (t.gs a) = -1) (hf2 : find key h (t.gs b) = -1) (w : World) (hT : TAt T B t w) (hX : TabOk w) (hE : Errs6 ae w) :
    Calls Tryd.prog 27 #[spotV T B key h a b, .int .u64 v] w fun e w' => e = .returned (errs.errV (ae "ambler/api.ErrNone")) ∧ Below w.heap.size w w' := by
  have c1 := fun W (hb : Below w.heap.size w W) => stands_no T B t ht key h a b ha hb' hh hf hf2 W (hT.below hb) (hX.below hb hX.lt)
  go_enter Tryd.func27, Tryd.ntmps27
  go_wp2_with (go_at_call 43; refine (c1 _ (new_block w _)).mono ?_; rintro e w1 ⟨rfl, hb1⟩; have hB1 := under.below_step (new_block w _) hb1; have y0 := (hE.below (under.below_step hB1 (new_block w1 (.cells #[.pointer (some ⟨B, b * 25, none⟩)] 62)))).none)
  go_ret
  exact ⟨rfl, under.below_step hB1 (new_block _ _)⟩
end Go.Proofs.YtplhgcidegngiaaDoor.table
