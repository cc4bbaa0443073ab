/- TableRefB: several texts in one: plain facts and laws for the walks. No program is named. -/
import Derived.Test.YtpllkopllhldcaaGreatDoorTableRefA
import Derived.Test.YtpllkopllhldcaaGreatDoorTableDel
import Derived.Deep.CutRange
import Derived.Deep.CutBlock
import Derived.Test.YtpllkopllhldcaaGreatDoorTableLeast
import Derived.Deep.RegionHeld3

/-! ### table: the document's table: Find, Put, Delete. -/
namespace Go.Proofs.YtpllkopllhldcaaGreatDoor.table
open Go.ChangeShapes Go.WideShapes Go.ChangeAt Go.RowKit Go.Shelf swar under trap meter group probe lens tail call
attribute [local go_sem] Oper.semAt_some stage.pureUpon move.stepUpon
set_option linter.unusedSimpArgs false
set_option linter.unusedVariables false

/-- behind Where: the two arrays, the box of the result -/
structure WF (w : World) (f : Rf) (t : Tb) (k ek ev eh E A : Nat) (a0 a1 f0 f1 : Int) (W : World) : Prop where
  st : WStep f t k w W
  e : EBox E ek ev eh W
  av : ABox A a0 a1 W
  fr : ABox (A + 1) f0 f1 W
  hE : w.heap.size ≤ E
  hA : w.heap.size ≤ A
section
variable {w : World} {f : Rf} {t t' : Tb} {k k' ek ev eh E A : Nat} {a0 a1 f0 f1 : Int} {W W' : World}
theorem WF.keep (s : WF w f t k ek ev eh E A a0 a1 f0 f1 W) (hb : Below W.heap.size W W') : WF w f t k ek ev eh E A a0 a1 f0 f1 W' := ⟨s.st.below hb, s.e.keep hb, s.av.keep hb, s.fr.keep hb, s.hE, s.hA⟩
theorem WF.new {x : World} (hW : WAt f t k' w) (hs : WStep f t k (w.alloc (.cells #[.int .u64 (ek : Nat), .int .u64 (ev : Nat), .int .u64 (eh : Nat)] 60)) x) :
    WF w f t k ek ev eh w.heap.size x.heap.size a0 a1 f0 f1 ((x.alloc (.cells #[.int .i64 a0, .int .i64 a1] 110)).alloc (.cells #[.int .i64 f0, .int .i64 f1] 110)) := by
  have z1 := World.size_alloc x (.cells #[.int .i64 a0, .int .i64 a1] 110)
  have f2 := ABox.new f0 f1 (x.alloc (.cells #[.int .i64 a0, .int .i64 a1] 110))
  rw [z1] at f2
  have hz := hs.past.size
  rw [World.size_alloc] at hz
  have hE := ((EBox.new ek ev eh w).past hs.past (fun hm => by have := hW.lts (.inl hm); omega)).keep (two_new x (.cells #[.int .i64 a0, .int .i64 a1] 110) (.cells #[.int .i64 f0, .int .i64 f1] 110))
  exact ⟨WStep.below ⟨(Past.of (new_block w _)).trans hs.past, hs.at'⟩ (two_new x _ _), hE, (ABox.new a0 a1 x).keep (new_block _ _), f2, Nat.le_refl _, by omega⟩
theorem WF.newset (s : WF w f t k ek ev eh E A a0 a1 f0 f1 W) (hW : WAt f t k' w) {X : Nat} (hX : w.heap.size ≤ X) (i : Nat) (u : Value) : WStep f t k w (W.setCell ⟨X, i, none⟩ u) :=
  ⟨s.st.past.store (p := ⟨X, i, none⟩) (.inr hX) u, s.st.at'.newset (fun b hb => by have := hW.lts hb; omega) i u⟩
theorem WStep.newset (s : WStep f t k w W) (hW : WAt f t' k' w) (hn : t.n = t'.n) {X : Nat} (hX : w.heap.size ≤ X) (i : Nat) (u : Value) : WStep f t k w (W.setCell ⟨X, i, none⟩ u) :=
  ⟨s.past.store (p := ⟨X, i, none⟩) (.inr hX) u, s.at'.newset (fun b hb => by have := hW.lts (by rw [← hn]; exact hb); omega) i u⟩
end
set_option maxRecDepth 20000 in
set_option maxHeartbeats 1000000 in
theorem rtfind_any (f : Rf) (t : Tb) (hn : okN t.n) (k key h : Nat) (hk : k + 64 < 9223372036854775807) (hh : h < 18446744073709551616) (w : World) (hW : WAt f t k w) :
    Calls Tryz.prog 32 #[.pointer (some ⟨f.R, 0, none⟩), .int .u64 key, .int .u64 h] w fun e w' => e = .returned (.tuple #[group.entV (entOf t key h).key (entOf t key h).val (entOf t key h).hash, .bool (isThere t key h)]) ∧ WStep f t (k + looks t key h) w w' := by
  have cW := where_any f t hn k key h hk hh _ (hW.below (new_block w (.cells #[.int .u64 0, .int .u64 0, .int .u64 0] 60)))
  have HW := Lib.hid hW
  clear hW
  cases ht : isThere t key h
  · have e1 : atI t key h = -1 := by unfold atI; rw [ht]; rfl
    have e3 : entOf t key h = ⟨1, 0, 0, 0⟩ := by unfold entOf; rw [ht]; rfl
    rw [e1, slot_neg ht] at cW
    rw [e3]
    clear e1 e3
    generalize frI t (sn t key h) = fi at cW
    generalize frK t (sn t key h) = fk at cW
    generalize k + looks t key h = kk at *
    go_enter Tryz.func32, Tryz.ntmps32
    go_wp2_with (go_at_call 52; refine cW.mono ?_; rintro e w2 ⟨rfl, hs2⟩; have S := WF.new (ek := 0) (ev := 0) (eh := 0) (a0 := -1) (a1 := -1) (f0 := fi) (f1 := fk) HW.out hs2; have x0 := S.av.c0; have y0 := S.e.c0; have y1 := S.e.c1; have y2 := S.e.c2; have y3 := S.e.fz)
    exact bodyPost_ret (v := .tuple #[group.entV 0 0 0, .bool false]) (by simp [results, Tryz.results32, go_sem, y0, y1, y2]) rfl ⟨rfl, ((S.newset HW.out S.hE 0 _).newset HW.out rfl S.hE 1 _).newset HW.out rfl S.hE 2 _⟩
  · obtain ⟨s, h8, hs, hhit⟩ := there_is ht
    have e1 : atI t key h = (lastG t key h : Nat) := by unfold atI; rw [ht]; rfl
    have hp := lastG_lt t key h hn
    have e3 : entOf t key h = t.gs (lastG t key h) s := by unfold entOf; rw [ht, hs]; rfl
    rw [e1, hs] at cW
    rw [e3]
    clear e1 e3 hs hhit ht
    generalize frI t (sn t key h) = fi at cW
    generalize frK t (sn t key h) = fk at cW
    generalize k + looks t key h = kk at *
    generalize lastG t key h = p at *
    have hpi : (p : Int) < (t.n : Int) := by omega
    have h8i : (s : Int) < 8 := by omega
    obtain ⟨sl, hsl⟩ : ∃ sl, t.gs p s = sl := ⟨_, rfl⟩
    rw [hsl]
    go_enter Tryz.func32, Tryz.ntmps32
    go_upto_region 4 with (go_at_call 52; refine cW.mono ?_; rintro e w2 ⟨rfl, hs2⟩; have S := WF.new (ek := 0) (ev := 0) (eh := 0) (a0 := p) (a1 := s) (f0 := fi) (f1 := fk) HW.out hs2; have x0 := S.av.c0; have x1 := S.av.c1; have y0 := S.e.c0; have y1 := S.e.c1; have y2 := S.e.c2; have y3 := S.e.fz; have x2 := S.st.at'.cell0; have x3 := S.st.at'.pt p hp; have x4 := (S.st.at'.gs p hp).key h8; have x5 := (S.st.at'.gs p hp).val h8; have x6 := (S.st.at'.gs p hp).hash h8)
    generalize (w2.alloc (.cells #[.int .i64 (p : Nat), .int .i64 (s : Nat)] 110)).alloc (.cells #[.int .i64 fi, .int .i64 fk] 110) = w4 at *
    rw [hsl] at x4 x5 x6
    clear hsl
    refine wp_region_tail_drew 15 (by kernel_rfl) (by kernel_rfl) ?_
    simp only [List.take_succ_cons, List.take_zero, List.drop_succ_cons, List.drop_zero]
    repeat (quiet_step (fail))
    refine wpQuiet_nil ?_
    intro w8 hw8
    obtain ⟨q8, rfl⟩ := hw8
    go_wp2
    have S := S.keep (below_drewN' _ q8)
    exact bodyPost_ret (v := .tuple #[group.entV sl.key sl.val sl.hash, .bool true]) (by simp [results, Tryz.results32, go_sem, y0, y1, y2]) rfl ⟨rfl, ((S.newset HW.out S.hE 0 _).newset HW.out rfl S.hE 1 _).newset HW.out rfl S.hE 2 _⟩
/-! ### Put -/
theorem WStep.congr {f : Rf} {t t' : Tb} {k : Nat} {w w' : World} (h : WStep f t k w w') (hn : t'.n = t.n) (hg : ∀ j, j < t.n → t'.gs j = t.gs j) : WStep f t' k w w' := ⟨by rw [hn]; exact h.past, h.at'.congr hn hg⟩
/-- which place is free: that of the real table -/
theorem fr_room {t : Tb} {key h : Nat} (hn : okN t.n) : (frI t (sn t key h) < 0 ∧ least (t.gs (roomG t key h)) < 0) ∨ (frI t (sn t key h) = (roomG t key h : Nat) ∧ frK t (sn t key h) = least (t.gs (roomG t key h)) ∧ 0 ≤ least (t.gs (roomG t key h))) := by
  cases hf : (sn t key h).find? (free t) with
  | none =>
    refine .inl ⟨by unfold frI; rw [hf]; decide, ?_⟩
    have hr : roomG t key h = lastOf (sn t key h) := by unfold roomG roomOf; rw [hf]
    have := List.find?_eq_none.1 hf _ (lastOf_mem (sn_ne t key h hn))
    rw [hr]
    unfold free at this
    rw [decide_eq_true_eq] at this
    omega
  | some i =>
    have hr : roomG t key h = i := by unfold roomG roomOf; rw [hf]
    have := List.find?_some hf
    unfold free at this
    rw [decide_eq_true_eq] at this
    rw [hr]
    exact .inr ⟨by unfold frI; rw [hf], by unfold frK; rw [hf], this⟩
theorem val_full {g : Gp} {k : Nat} (hk : k < 8) (h3 : (g k).kind = 3) (v : Nat) : valG g (k : Int) v = g.put k { g k with val := v } := by
  have h1 : inR (k : Int) = true := by unfold inR; simp; omega
  have h2 : fullAt g (k : Int) = true := by unfold fullAt; rw [h1]; exact is_of h3
  unfold valG; rw [if_pos h2]; rfl
theorem put_free' {g : Gp} {k : Nat} (hk : k < 8) (h3 : (g k).kind ≠ 3) (s : Sl) : putG g (k : Int) s = g.put k s := by
  have h1 : inR (k : Int) = true := by unfold inR; simp; omega
  have h2 : putE g (k : Int) = 0 := by unfold putE; rw [if_pos h1, if_neg (by rw [show ((k : Int).toNat) = k from rfl, is_not' h3]; decide)]
  unfold putG; rw [if_pos h2]; rfl
theorem era_full {g : Gp} {k : Nat} (hk : k < 8) (h3 : (g k).kind = 3) : eraG g (k : Int) = g.put k (erased g) := by
  have h1 : inR (k : Int) = true := by unfold inR; simp; omega
  have h2 : fullAt g (k : Int) = true := by unfold fullAt; rw [h1]; exact is_of h3
  unfold eraG; rw [if_pos h2]; rfl
set_option maxRecDepth 20000 in
set_option maxHeartbeats 1000000 in
theorem rtput_any (f : Rf) (t : Tb) (ht : t.Ok) (k key v h : Nat) (hk : k + 64 < 9223372036854775807) (hh : h < 18446744073709551616) (w : World) (hW : WAt f t k w) :
    Calls Tryz.prog 24 #[.pointer (some ⟨f.R, 0, none⟩), group.entV key v h] w fun e w' => e = .returned (.tuple #[.bool (putB' t key h), .int .i64 (putE' t key h : Nat)]) ∧ WStep f (t.puts key h v) (k + looks t key h) w w' := by
  have hn := ht.n
  have hb1 := new_block w (.cells #[.int .u64 (key : Nat), .int .u64 (v : Nat), .int .u64 (h : Nat)] 60)
  have cW := where_any f t hn k key h hk hh _ (hW.below hb1)
  have v0 := (EBox.new key v h w).c0
  have v1 := (EBox.new key v h w).c1
  have v2 := (EBox.new key v h w).c2
  have HW := Lib.hid hW
  clear hW hb1
  cases hth : isThere t key h
  · have e1 : atI t key h = -1 := by unfold atI; rw [hth]; rfl
    have e3 : t.puts key h v = t.place key h v := by unfold Tb.puts; rw [hth]; rfl
    have e4 : putE' t key h = roomE t key h := by unfold putE'; rw [hth]; rfl
    have e5 : putB' t key h = decide (roomE t key h = 0) := by unfold putB'; rw [hth]; rfl
    rw [e1, slot_neg hth] at cW
    rw [e3, e4, e5]
    clear e1 e3 e4 e5
    have cL := fun W kk (hs : WAt f t kk W) => rtleft_any f t ht kk W hs
    by_cases hl : t.left < 1
    · have dl : decide (t.left < 1) = true := decide_eq_true hl
      have e6 : roomE t key h = 2 := by unfold roomE; rw [if_pos hl]
      have e7 : t.place key h v = t := place_no (by rw [e6]; decide) v
      rw [e6, e7]
      clear e6 e7
      generalize frI t (sn t key h) = fi at cW
      generalize frK t (sn t key h) = fk at cW
      generalize k + looks t key h = kk at *
      go_enter Tryz.func24, Tryz.ntmps24
      go_wp2_with (first
        | (go_at_call 52; (with_reducible refine cW.mono ?_); rintro e w2 ⟨rfl, hs2⟩; have S := WF.new (a0 := -1) (a1 := -1) (f0 := fi) (f1 := fk) HW.out hs2; have x0 := S.av.c0)
        | (go_at_call 54; (with_reducible refine (cL _ _ S.st.at').mono ?_); rintro e w3 ⟨rfl, hb3⟩))
      go_ret2
      exact ⟨rfl, S.st.below hb3⟩
    · have dl : decide (t.left < 1) = false := decide_eq_false hl
      rcases fr_room (key := key) (h := h) hn with ⟨g1, g2⟩ | ⟨g1, g2, g3⟩
      · have e6 : roomE t key h = 2 := by unfold roomE; rw [if_neg hl, if_pos g2]
        have e7 : t.place key h v = t := place_no (by rw [e6]; decide) v
        rw [e6, e7]
        clear e6 e7 g2
        generalize frI t (sn t key h) = fi at *
        generalize frK t (sn t key h) = fk at cW
        generalize k + looks t key h = kk at *
        have df : decide (fi < 0) = true := decide_eq_true g1
        go_enter Tryz.func24, Tryz.ntmps24
        go_wp2_with (first
          | (go_at_call 52; (with_reducible refine cW.mono ?_); rintro e w2 ⟨rfl, hs2⟩; have S := WF.new (a0 := -1) (a1 := -1) (f0 := fi) (f1 := fk) HW.out hs2; have x0 := S.av.c0)
          | (go_at_call 54; (with_reducible refine (cL _ _ S.st.at').mono ?_); rintro e w3 ⟨rfl, hb3⟩; have S3 := S.keep hb3; have x1 := S3.fr.c0))
        go_ret2
        exact ⟨rfl, S3.st⟩
      · have e6 : roomE t key h = 0 := by unfold roomE; rw [if_neg hl, if_neg (by omega)]
        obtain ⟨_, s, h8, hs, h3⟩ := room_is e6
        have e7 : t.place key h v = t.put (roomG t key h) s ⟨3, key, v, h⟩ := place_at e6 hs v
        have hp := roomG_lt t key h hn
        rw [g1, g2, hs] at cW
        rw [e6, e7]
        clear e6 e7 g1 g2 g3 hs
        generalize k + looks t key h = kk at *
        generalize roomG t key h = p at *
        have hpi : (p : Int) < (t.n : Int) := by omega
        have df : decide (((p : Nat) : Int) < 0) = false := decide_eq_false (by omega)
        have HG := Lib.hid (put_free' h8 h3 ⟨3, key, v, h⟩)
        have cP := fun W (hs : WAt f t kk W) => rput_any (f.Q p) (t.gs p) (s : Int) key v h W (hs.gs p hp)
        clear h3
        go_enter Tryz.func24, Tryz.ntmps24
        go_upto_region 7 with (first
          | (go_at_call 52; (with_reducible refine cW.mono ?_); rintro e w2 ⟨rfl, hs2⟩; have S := WF.new (a0 := -1) (a1 := -1) (f0 := p) (f1 := s) HW.out hs2; have x0 := S.av.c0)
          | (go_at_call 54; (with_reducible refine (cL _ _ S.st.at').mono ?_); rintro e w3 ⟨rfl, hb3⟩; have S3 := S.keep hb3; have x1 := S3.fr.c0; have x2 := S3.fr.c1; have y0 := S3.e.c0; have y1 := S3.e.c1; have y2 := S3.e.c2; have z0 := S3.st.at'.cell0; have z1 := S3.st.at'.pt p hp))
        refine wp_region_tail_drew 11 (by kernel_rfl) (by kernel_rfl) ?_
        simp only [List.take_succ_cons, List.take_zero, List.drop_succ_cons, List.drop_zero]
        repeat (quiet_step (fail))
        refine wpQuiet_nil ?_
        intro w8 hw8
        obtain ⟨q8, rfl⟩ := hw8
        have S8 := S3.keep (below_drewN' _ q8)
        go_wp2_with (go_at_call 55; (with_reducible refine (cP _ S8.st.at').mono ?_); rintro e w9 ⟨rfl, hs9⟩)
        go_ret2
        have hg := S8.st.at'.gstep hp hs9
        rw [HG.out] at hg
        exact ⟨rfl, (S8.st.trans hg rfl).congr rfl fun j _ => rfl⟩
  · obtain ⟨s, h8, hs, hhit⟩ := there_is hth
    have e1 : atI t key h = (lastG t key h : Nat) := by unfold atI; rw [hth]; rfl
    have hp := lastG_lt t key h hn
    have e3 : t.puts key h v = t.val (lastG t key h) s v := by unfold Tb.puts; rw [hth, replace_at hs]; rfl
    have e4 : putE' t key h = 0 := by unfold putE'; rw [hth]; rfl
    have e5 : putB' t key h = false := by unfold putB'; rw [hth]; rfl
    rw [e1, hs] at cW
    rw [e3, e4, e5]
    have h3 := (hit_is hhit).1
    clear e1 e3 e4 e5 hs hhit hth
    generalize frI t (sn t key h) = fi at cW
    generalize frK t (sn t key h) = fk at cW
    generalize k + looks t key h = kk at *
    generalize lastG t key h = p at *
    have hpi : (p : Int) < (t.n : Int) := by omega
    have h8i : (s : Int) < 8 := by omega
    have HG := Lib.hid (val_full h8 h3 v)
    have cP := fun W (hs : WAt f t kk W) => rval_any (f.Q p) (t.gs p) (s : Int) v W (hs.gs p hp)
    clear h3
    go_enter Tryz.func24, Tryz.ntmps24
    go_upto_region 3 with (go_at_call 52; (with_reducible refine cW.mono ?_); rintro e w2 ⟨rfl, hs2⟩; have S := WF.new (a0 := p) (a1 := s) (f0 := fi) (f1 := fk) HW.out hs2; have x0 := S.av.c0; have x1 := S.av.c1; have y1 := S.e.c1; have x2 := S.st.at'.cell0; have x3 := S.st.at'.pt p hp)
    generalize (w2.alloc (.cells #[.int .i64 (p : Nat), .int .i64 (s : Nat)] 110)).alloc (.cells #[.int .i64 fi, .int .i64 fk] 110) = w4 at *
    refine wp_region_tail_drew 12 (by kernel_rfl) (by kernel_rfl) ?_
    simp only [List.take_succ_cons, List.take_zero, List.drop_succ_cons, List.drop_zero]
    repeat (quiet_step (fail))
    refine wpQuiet_nil ?_
    intro w8 hw8
    obtain ⟨q8, rfl⟩ := hw8
    have S8 := S.keep (below_drewN' _ q8)
    go_wp2_with (go_at_call 53; (with_reducible refine (cP _ S8.st.at').mono ?_); rintro e w9 ⟨rfl, hs9⟩)
    go_ret2
    have hg := S8.st.at'.gstep hp hs9
    rw [HG.out] at hg
    exact ⟨rfl, (S8.st.trans hg rfl).congr rfl fun j _ => rfl⟩
end Go.Proofs.YtpllkopllhldcaaGreatDoor.table

/-! ### table: the document's table: Delete. -/
namespace Go.Proofs.YtpllkopllhldcaaGreatDoor.table
open Go.ChangeShapes Go.WideShapes Go.ChangeAt Go.RowKit Go.Shelf swar under trap meter group probe lens tail call
attribute [local go_sem] Oper.semAt_some stage.pureUpon move.stepUpon
set_option linter.unusedSimpArgs false
set_option linter.unusedVariables false

set_option maxRecDepth 20000 in
set_option maxHeartbeats 4000000 in
theorem rtdelete_any (f : Rf) (t : Tb) (ht : t.Ok) (k key h : Nat) (hk : k + 64 < 9223372036854775807) (hh : h < 18446744073709551616) (w : World) (hW : WAt f t k w) :
    Calls Tryz.prog 26 #[.pointer (some ⟨f.R, 0, none⟩), .int .u64 key, .int .u64 h] w fun e w' => e = .returned (.tuple #[group.entV (entOf t key h).key (entOf t key h).val (entOf t key h).hash, .bool (isThere t key h)]) ∧ WStep f (t.remove key h) (k + looks t key h) w w' := by
  have hn := ht.n
  have cW := where_any f t hn k key h hk hh _ (hW.below (new_block w (.cells #[.int .u64 0, .int .u64 0, .int .u64 0] 60)))
  have HW := Lib.hid hW
  clear hW
  cases hth : isThere t key h
  · have e1 : atI t key h = -1 := by unfold atI; rw [hth]; rfl
    have e3 : entOf t key h = ⟨1, 0, 0, 0⟩ := by unfold entOf; rw [hth]; rfl
    have e4 : t.remove key h = t := by unfold Tb.remove; rw [slot_neg hth]; rfl
    rw [e1, slot_neg hth] at cW
    rw [e3, e4]
    clear e1 e3 e4
    generalize frI t (sn t key h) = fi at cW
    generalize frK t (sn t key h) = fk at cW
    generalize k + looks t key h = kk at *
    go_enter Tryz.func26, Tryz.ntmps26
    go_wp2_with (go_at_call 52; refine cW.mono ?_; rintro e w2 ⟨rfl, hs2⟩; have S := WF.new (ek := 0) (ev := 0) (eh := 0) (a0 := -1) (a1 := -1) (f0 := fi) (f1 := fk) HW.out hs2; have x0 := S.av.c0; have y0 := S.e.c0; have y1 := S.e.c1; have y2 := S.e.c2; have y3 := S.e.fz)
    exact bodyPost_ret (v := .tuple #[group.entV 0 0 0, .bool false]) (by simp [results, Tryz.results26, go_sem, y0, y1, y2]) rfl ⟨rfl, ((S.newset HW.out S.hE 0 _).newset HW.out rfl S.hE 1 _).newset HW.out rfl S.hE 2 _⟩
  · obtain ⟨s, h8, hs, hhit⟩ := there_is hth
    have e1 : atI t key h = (lastG t key h : Nat) := by unfold atI; rw [hth]; rfl
    have hp := lastG_lt t key h hn
    have e3 : entOf t key h = t.gs (lastG t key h) s := by unfold entOf; rw [hth, hs]; rfl
    have e4 : t.remove key h = t.era (lastG t key h) s := remove_at hs
    have h3 := (hit_is hhit).1
    rw [e1, hs] at cW
    rw [e3, e4]
    clear e1 e3 e4 hs hhit hth
    generalize frI t (sn t key h) = fi at cW
    generalize frK t (sn t key h) = fk at cW
    generalize k + looks t key h = kk at *
    generalize lastG t key h = p at *
    have hpi : (p : Int) < (t.n : Int) := by omega
    have h8i : (s : Int) < 8 := by omega
    have hp0 : (0 : Int) ≤ (p : Int) := by omega
    have h80 : (0 : Int) ≤ (s : Int) := by omega
    have HG := Lib.hid (era_full h8 h3)
    have cP := fun W (hs : WAt f t kk W) => rerase_any (f.Q p) (t.gs p) (s : Int) W (hs.gs p hp)
    clear h3
    obtain ⟨sl, hsl⟩ : ∃ sl, t.gs p s = sl := ⟨_, rfl⟩
    rw [hsl]
    go_enter Tryz.func26, Tryz.ntmps26
    go_upto_region 4 with (go_at_call 52; refine cW.mono ?_; rintro e w2 ⟨rfl, hs2⟩; have S := WF.new (ek := 0) (ev := 0) (eh := 0) (a0 := p) (a1 := s) (f0 := fi) (f1 := fk) HW.out hs2; have x0 := S.av.c0; have x1 := S.av.c1; have x2 := S.st.at'.cell0; have x3 := S.st.at'.pt p hp; have x4 := (S.st.at'.gs p hp).key h8; have x5 := (S.st.at'.gs p hp).val h8; have x6 := (S.st.at'.gs p hp).hash h8)
    generalize hA : w2.heap.size = A at *
    generalize hw4 : (w2.alloc (.cells #[.int .i64 (p : Nat), .int .i64 (s : Nat)] 110)).alloc (.cells #[.int .i64 fi, .int .i64 fk] 110) = w4 at *
    rw [hsl] at x4 x5 x6
    clear hsl hA hw4
    go_region_held3 (fun w' => w'.cell? ⟨f.R, 0, none⟩ = some (.slice (some ⟨f.G, 0, none⟩) t.n f.c) ∧ w'.cell? ⟨A, 0, none⟩ = some (.int .i64 (p : Nat)) ∧ w'.cell? ⟨A, 1, none⟩ = some (.int .i64 (s : Nat)) ∧ w'.cell? ⟨f.G, p, none⟩ = some (.pointer (some ⟨f.Q p, 0, none⟩)) ∧ w'.cell? ⟨f.Q p, s * 4 + 1, none⟩ = some (.int .u64 (sl.key : Nat)) ∧ w'.cell? ⟨f.Q p, s * 4 + 2, none⟩ = some (.int .u64 (sl.val : Nat)) ∧ w'.cell? ⟨f.Q p, s * 4 + 3, none⟩ = some (.int .u64 (sl.hash : Nat)))
      (go_keep) (fail)
    have S5 := (S.keep (new_block w4 (.cells #[.int .u64 (sl.key : Nat), .int .u64 (sl.val : Nat), .int .u64 (sl.hash : Nat)] 60))).keep (under.drew_below _)
    have hV5 := (EBox.new sl.key sl.val sl.hash w4).keep (under.drew_below _)
    have hA4 : A + 1 < w4.heap.size := S.fr.lt
    have hEl : w.heap.size < w4.heap.size := S.e.lt
    have hb6 : w.heap.size ≤ w4.heap.size := by omega
    clear x0 x1 x2 x3 x4 x5 x6
    generalize w4.heap.size = X at *
    generalize (w4.alloc (.cells #[.int .u64 (sl.key : Nat), .int .u64 (sl.val : Nat), .int .u64 (sl.hash : Nat)] 60)).drew = w5 at *
    have x0 := S5.av.c0
    have x1 := S5.av.c1
    have x2 := S5.st.at'.cell0
    have x3 := S5.st.at'.pt p hp
    go_upto_region 5 with (fail)
    refine wp_region_tail_drew 10 (by kernel_rfl) (by kernel_rfl) ?_
    simp only [List.take_succ_cons, List.take_zero, List.drop_succ_cons, List.drop_zero]
    repeat (quiet_step (fail))
    refine wpQuiet_nil ?_
    intro w8 hw8
    obtain ⟨q8, rfl⟩ := hw8
    have S8 := S5.keep (below_drewN' _ q8)
    have hV8 := hV5.keep (below_drewN' _ q8)
    have hXq : ∀ b, b ∈ f.d t.n ∨ b = f.G → b < w.heap.size := fun b hb => HW.out.lts hb
    have nX : X ∉ [f.Q p] := fun hm => by have := hXq (f.Q p) (.inl (Rf.mem.2 (.inr ⟨p, hp, rfl⟩))); simp at hm; omega
    have nE : w.heap.size ∉ [f.Q p] := fun hm => by have := hXq (f.Q p) (.inl (Rf.mem.2 (.inr ⟨p, hp, rfl⟩))); simp at hm; omega
    go_wp2_with (go_at_call 58; (with_reducible refine (cP _ S8.st.at').mono ?_); rintro e w9 ⟨rfl, hs9⟩; have hV9 := hV8.past hs9.past nX; have hE9 := S8.e.past hs9.past nE; have y0 := hE9.c0; have y1 := hE9.c1; have y2 := hE9.c2; have y3 := hE9.fz; have v0 := hV9.c0; have v1 := hV9.c1; have v2 := hV9.c2)
    have hg := S8.st.at'.gstep hp hs9
    rw [HG.out] at hg
    have hf := (S8.st.trans hg rfl).congr (t' := t.era p s) rfl fun j _ => rfl
    exact bodyPost_ret (v := .tuple #[group.entV sl.key sl.val sl.hash, .bool true]) (by simp [results, Tryz.results26, go_sem, y0, y1, y2]) rfl ⟨rfl, ((hf.newset HW.out rfl S8.hE 0 _).newset HW.out rfl S8.hE 1 _).newset HW.out rfl S8.hE 2 _⟩
end Go.Proofs.YtpllkopllhldcaaGreatDoor.table
