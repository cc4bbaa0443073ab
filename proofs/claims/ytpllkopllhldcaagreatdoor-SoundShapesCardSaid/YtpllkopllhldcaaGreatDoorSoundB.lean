/- SoundB: several texts in one: plain facts and laws for the walks. No program is named. -/
import Derived.Test.YtpllkopllhldcaaGreatDoorSoundA
import Derived.Test.YtpllkopllhldcaaGreatDoorMeterAt
import Derived.LoopTactic
import Derived.Maps.OwnIn
import Derived.Maps.Views
import Derived.Test.YtpllkopllhldcaaGreatDoorProbeDoc

/-! ### sound: looks; Look; Check. -/
namespace Go.Proofs.YtpllkopllhldcaaGreatDoor.sound
open Go.ChangeShapes Go.WideShapes Go.ChangeAt Go.RowKit Go.Shelf swar under trap meter group probe lens tail call table
attribute [local go_sem] Oper.semAt_some stage.pureUpon move.stepUpon
set_option linter.unusedSimpArgs false
set_option linter.unusedVariables false

theorem see_last (B o : Nat) (m : Mt) {k : Nat} (hp : m.pl = k) : ∀ c, k + c ≤ 1099511627776 → ((Ln.pr B o).see m c).pl = ((k + c : Nat) : Int)
  | 0, _ => hp
  | c + 1, h => by
    have h1 := see_last B o m hp c (by omega)
    rw [Ln.see_succ]
    show sm ((Ln.pr B o).see m c).pl 1 = _
    rw [h1, sm_add (by omega) (by omega) (by omega)]; omega
theorem fld0 (a b c : Int) (w : World) : (Instr.field 136 (.agg #[.int .i64 a, .int .i64 b, .int .i64 c]) 0).run Tryz.prog w = .ok (.int .i64 a) w := by kernel_rfl
set_option maxRecDepth 20000 in
theorem looks_any {ae : String → Addr} {T B : Nat} {t : Tb} {w : World} (h : Ready ae T B t .nil Mt.zero w) (key v hs : Nat) (hk : key < 18446744073709551616) (hh : hs < 18446744073709551616) :
    Calls Tryz.prog 35 #[.pointer (some ⟨T, 0, none⟩), group.entV key v hs] w fun e w' => e = .returned (.int .i64 (table.looks t key hs : Nat)) ∧ Below w.heap.size w w' := by
  have hb1 := new_block w (.cells #[.int .u64 (key : Nat), .int .u64 (v : Nat), .int .u64 (hs : Nat)] 60)
  have hE := EBox.new key v hs w
  obtain ⟨w1, e1⟩ : ∃ w1, w.alloc (.cells #[.int .u64 (key : Nat), .int .u64 (v : Nat), .int .u64 (hs : Nat)] 60) = w1 := ⟨_, rfl⟩
  have hb2 := new_block w1 (.cells #[.int .i64 0, .int .i64 0, .int .i64 0, .int .i64 0, .int .i64 0, .int .i64 0, .int .i64 0, .bool false] 133)
  have hz1 : w1.heap.size = w.heap.size + 1 := by rw [← e1]; exact World.size_alloc _ _
  rw [e1] at hb1 hE
  have hR1 := h.below hb1
  have hR2 := hR1.below hb2
  have hT := hR1.at'.lt
  have hB := hR1.at'.lb
  have hR : Ready ae T B t (.pr w1.heap.size 0) Mt.zero (w1.alloc (.cells #[.int .i64 0, .int .i64 0, .int .i64 0, .int .i64 0, .int .i64 0, .int .i64 0, .int .i64 0, .bool false] 133)) :=
    ⟨hR2.at', hR2.ok, MAt.new w1, fun b hb => by
      obtain rfl : b = w1.heap.size := by simpa [Ln.d] using hb
      omega, hR2.bits, fun b hb => by
      obtain rfl : b = w1.heap.size := by simpa [Ln.d] using hb
      have := h.ft; omega, h.ft, h.fb, hR2.errs⟩
  have hE2 := hE.keep hb2
  have HB := Lib.hid (under.below_step hb1 hb2)
  have hl64 : table.looks t key hs ≤ 64 := by have := looks_le t key hs; have := okN_le h.ok.n; omega
  have cF := fun W (hr : Ready ae T B t (.pr w1.heap.size 0) Mt.zero W) => find_tab hr key hs hk hh
  have HL := Lib.hid (see_last w1.heap.size 0 Mt.zero (k := 0) rfl (table.looks t key hs) (by omega))
  have HZ := Lib.hid (show w.heap.size ≤ w.heap.size + 1 by omega)
  rw [hz1] at hR cF HL hT hB
  clear hR1 hR2 hb1 hb2 hE hl64 h
  generalize (entOf t key hs).key = ek at *
  generalize (entOf t key hs).val = ev at *
  generalize (entOf t key hs).hash = eh at *
  generalize isThere t key hs = it at *
  generalize table.looks t key hs = lk at *
  go_enter Tryz.func35, Tryz.ntmps35
  go_upto_region 2 with (fail)
  clear e1 hz1
  simp only [Ln.p] at cF
  generalize w1.alloc (.cells #[.int .i64 0, .int .i64 0, .int .i64 0, .int .i64 0, .int .i64 0, .int .i64 0, .int .i64 0, .bool false] 133) = w2 at *
  generalize w.heap.size + 1 = Bm at *
  have z0 := Under.cell hE2.c0
  have z2 := Under.cell hE2.c2
  have HR := Lib.hid hR
  clear hE2 hT hB hR
  refine wp_region_tail_under 6 (by kernel_rfl) (by kernel_rfl) ?_
  simp only [List.take_succ_cons, List.take_zero, List.drop_succ_cons, List.drop_zero]
  repeat (quiet_step ((go_at_call 69; (with_reducible refine under_call (probing_any _ _ _)))))
  refine wpQuiet_nil ?_
  intro wq hwq
  obtain ⟨q, rfl⟩ := hwq
  have hRq := HR.out.below q.below
  have HBq := Lib.hid (under.below_step HB.out q.below)
  clear z0 z2 HB HR
  generalize q.W = w3 at *
  go_wp2_with (go_at_call 68; (with_reducible refine (cF _ hRq).mono ?_); rintro e w4 ⟨rfl, hs4⟩)
  have cL := last_any Bm 0 _ w4 hs4.at'
  rw [HL.out, Nat.zero_add] at cL
  have f0 := fld0
  have hp4 := hs4.past
  go_wp2_with (go_at_call 70; refine cL.mono ?_; rintro e w5 ⟨rfl, hb5⟩)
  go_ret
  have hb4 : Below w.heap.size w w4 := HBq.out.trans (hp4.below HBq.out.size fun b hb => by
    obtain rfl : b = Bm := by simpa [Ln.d] using hb
    have := HZ.out; omega)
  exact ⟨rfl, under.below_step hb4 hb5⟩
/-! ### Look -/
theorem KpD.own {W W' : World} {row : Option Nat} (hg : W.grownBy W' row) (hr : ∀ r, row = some r → ∃ o : Obj, W.heap[r]? = some o ∧ o.isCells = false) : KpD [] W W' :=
  ⟨hg.size, fun k o _ hk hc => (hg.block k (Array.getElem?_eq_some_iff.1 hk).1 fun e => by
    obtain ⟨o', h1, h2⟩ := hr k e.symm
    rw [hk] at h1; cases h1; rw [hc] at h2; cases h2).trans hk⟩
theorem ShBox.kp {X a b c d e f : Nat} {W W' : World} {l : List Nat} (h : ShBox X a b c d e f W) (hk : KpD l W W') (hX : X ∉ l) : ShBox X a b c d e f W' := ⟨hk.same X _ hX h.row rfl⟩
theorem szTab : (Tryz.prog.info? 97).map (·.size) = some 3 := by kernel_rfl
theorem ptr_tab (x : Addr) (w : World) : (Op.equalIn 10000 25 (.pointer (some x)) (.pointer none)).run Tryz.prog w = .ok false w := by
  obtain ⟨j, hj, _⟩ := Option.map_eq_some_iff.1 szTab
  have h : ∀ d : Nat, (Op.equalIn (d + 1) 25 (.pointer (some x)) (.pointer none)).run Tryz.prog w = .ok false w := fun d => by
    simp [Op.equalIn, run_underlying Tryz.underlying25, sizeOf, typeInfo, hj, sameAddr]
  exact h 9999
/-- within Look: the box of t, the result's, the shape's -/
structure LkI (ae : String → Addr) (T B : Nat) (t : Tb) (Bt : Nat) (w : World) (X S a b c d e f : Nat) (W : World) : Prop where
  it : It ae T B t Bt W
  xt : W.cell? ⟨X, 0, none⟩ = some (.pointer (some ⟨T, 0, none⟩))
  r : ShBox (X + 1) 0 0 0 0 0 0 W
  s : ShBox S a b c d e f W
  bel : Below w.heap.size w W
section
variable {ae : String → Addr} {T B : Nat} {t : Tb} {Bt : Nat} {w : World} {X S a b c d e f : Nat} {W W' : World}
theorem LkI.keep (h : LkI ae T B t Bt w X S a b c d e f W) (hb : Below W.heap.size W W') : LkI ae T B t Bt w X S a b c d e f W' := ⟨h.it.below hb, keepc hb h.xt, h.r.keep hb, h.s.keep hb, under.below_step h.bel hb⟩
theorem LkI.own (h : LkI ae T B t Bt w X S a b c d e f W) (hn : okN t.n) {row : Option Nat} {B0 : Nat} (hB0 : w.heap.size ≤ B0) (hg : W.grownBy W' row) (hr : ∀ r, row = some r → B0 ≤ r ∧ ∃ o : Obj, W.heap[r]? = some o ∧ o.isCells = false) : LkI ae T B t Bt w X S a b c d e f W' := by
  have k := KpD.own hg fun r e => (hr r e).2
  exact ⟨h.it.kp k (by simp) (by simp) (by simp) (fun b hb => by cases hb) hn, k.cell h.xt (by simp), h.r.kp k (by simp), h.s.kp k (by simp), h.bel.grown hg h.bel.size fun r e => by have := (hr r e).1; omega⟩
theorem LkI.put {a' b' c' d' e' f' : Nat} (h : LkI ae T B t Bt w X S a b c d e f W) (hn : okN t.n) (i : Nat) (u : Value) (hs : ShBox S a' b' c' d' e' f' (W.setCell ⟨S, i, none⟩ u)) (h1 : w.heap.size ≤ S) (hX : X ≠ S) (hX1 : X + 1 ≠ S) (hT : T ≠ S) (hB : B ≠ S) (hBt : Bt ≠ S) (hf : Far [S]) : LkI ae T B t Bt w X S a' b' c' d' e' f' (W.setCell ⟨S, i, none⟩ u) := by
  have p : Past [S] W (W.setCell ⟨S, i, none⟩ u) := (Past.refl [S] W).store (p := ⟨S, i, none⟩) (.inl (by simp)) _
  have k := KpD.of p
  exact ⟨h.it.kp k (by simpa using hT) (by simpa using hB) (by simpa using hBt) hf hn, k.cell h.xt (by simpa using hX), h.r.other hX1 _ _, hs, tail.bset h.bel _ _ h1 _⟩
end
def lkF (t : Tb) (l : List (Fin (ents t t.n).length)) : List Nat := l.map fun x => table.looks t (entN t x).key (entN t x).hash
theorem lkF_snoc (t : Tb) (l : List (Fin (ents t t.n).length)) (x : Fin (ents t t.n).length) : lkF t (l ++ [x]) = lkF t l ++ [table.looks t (entN t x).key (entN t x).hash] := by simp [lkF]
theorem lkF_all (t : Tb) : lkF t (List.finRange (ents t t.n).length) = lks t (ents t t.n) := by
  unfold lkF lks
  have e : (List.finRange (ents t t.n).length).map (entN t) = ents t t.n := by
    apply List.ext_getElem
    · simp
    · intro i h1 h2; simp [entN]
  conv => rhs; rw [← e]
  rw [List.map_map]; rfl
theorem lkF_sum (t : Tb) (l : List (Fin (ents t t.n).length)) : (lkF t l).sum ≤ t.n * l.length := by
  have := sum_le (n := t.n) (l := lkF t l) fun x hx => by
    obtain ⟨e, _, rfl⟩ := List.mem_map.1 hx
    exact looks_le t _ _
  simpa [lkF] using this
theorem ents_512 {t : Tb} (h : t.Ok) : (ents t t.n).length ≤ 512 := by
  rw [ents_length]
  have := cntT_le 3 t
  have := okN_le h.n
  omega
/-- what the return leaves -/
theorem lk_ret {R a b c d e f : Nat} {w W : World} (h : ShBox R 0 0 0 0 0 0 W) (hB : Below w.heap.size w W) (hR : w.heap.size ≤ R) (D : Nat) (hD : w.heap.size ≤ D) (hK : W.heap[D]? = some (.deferred (some []))) (W' : World)
    (hW : W' = ((((((W.setCell ⟨R, 0, none⟩ (.int .i64 (a : Nat))).setCell ⟨R, 1, none⟩ (.int .i64 (b : Nat))).setCell ⟨R, 2, none⟩ (.int .i64 (c : Nat))).setCell ⟨R, 3, none⟩ (.int .i64 (d : Nat))).setCell ⟨R, 4, none⟩ (.int .i64 (e : Nat))).setCell ⟨R, 5, none⟩ (.int .i64 (f : Nat)))) :
    W'.heap[D]? = some (.deferred (some [])) ∧ ShBox R a b c d e f (W'.putObj D (.deferred none)) ∧ Below w.heap.size w (W'.putObj D (.deferred none)) := by
  have hb : Below w.heap.size w W' := by
    rw [hW]; exact bset (bset (bset (bset (bset (bset hB _ _ hR _) _ _ hR _) _ _ hR _) _ _ hR _) _ _ hR _) _ _ hR _
  have hne : D ≠ R := fun e => by subst e; rw [h.row] at hK; cases hK
  have hs : ShBox R a b c d e f W' := by rw [hW]; exact (((((h.set0 a).set1 b).set2 c).set3 d).set4 e).set5 f
  have hD' : W'.heap[D]? = some (.deferred (some [])) := by
    have o : ∀ (X : World) (i : Nat) (v : Value), (X.setCell ⟨R, i, none⟩ v).heap[D]? = X.heap[D]? := fun X i v => Below.heap_setCell _ _ _ _ hne
    rw [hW, o, o, o, o, o, o]; exact hK
  exact ⟨hD', ⟨(World.putObj_heap_other fun e => hne e.symm).trans hs.row⟩, hb.grown (grownBy_putObj' _ D (.deferred none)) hb.size (fun r e => by cases e; exact hD)⟩
abbrev shapeOf (t : Tb) : Value := shV (cntT 3 t) (cntT 2 t) (cntT 1 t) (oc t t.n) (mx (lks t (ents t t.n))) (lks t (ents t t.n)).sum
set_option maxRecDepth 100000 in
set_option maxHeartbeats 4000000 in
theorem look_sound {ae : String → Addr} {T B : Nat} {t : Tb} {w : World} (h : Ready ae T B t .nil Mt.zero w) :
    Calls Tryz.prog 9 #[.pointer (some ⟨T, 0, none⟩)] w fun e w' => e = .returned (shapeOf t) ∧ Below w.heap.size w w' := by
  unfold shapeOf
  have hok := h.ok
  have hTl := h.at'.lt
  have hBl := h.at'.lb
  have hpt := ptr_tab ⟨T, 0, none⟩
  have hb2 := two_new w (.cells #[.pointer (some ⟨T, 0, none⟩)] 25) (.cells #[.int .i64 0, .int .i64 0, .int .i64 0, .int .i64 0, .int .i64 0, .int .i64 0] 32)
  have x0 := keepc (new_block (w.alloc (.cells #[.pointer (some ⟨T, 0, none⟩)] 25)) (.cells #[.int .i64 0, .int .i64 0, .int .i64 0, .int .i64 0, .int .i64 0, .int .i64 0] 32)) (newc w (.pointer (some ⟨T, 0, none⟩)) 25)
  have hr2 := ShBox.new (w.alloc (.cells #[.pointer (some ⟨T, 0, none⟩)] 25))
  rw [World.size_alloc] at hr2
  have hz2 : ((w.alloc (.cells #[.pointer (some ⟨T, 0, none⟩)] 25)).alloc (.cells #[.int .i64 0, .int .i64 0, .int .i64 0, .int .i64 0, .int .i64 0, .int .i64 0] 32)).heap.size = w.heap.size + 2 := by simp
  have cS := slots_any T B t hok _ (h.below hb2).at'
  refine (callsIn_wide (n := 3)).1 (callsIn_of_wp_marks Tryz.func9 rfl trivial ?_ rfl)
  simp only [Tryz.ntmps9, List.size_toArray, List.length_cons, List.length_nil, Nat.reduceAdd, Nat.reduceSub, Array.replicate_succ, Array.replicate_zero, List.push_toArray, List.append_toArray, List.nil_append, List.cons_append]
  refine wpIn_wide.2 ?_
  have HZ2 := Lib.hid hz2
  have H2 := Lib.hid (And.intro hb2 (And.intro x0 hr2))
  have HH := Lib.hid (h.below hb2)
  clear hb2 hr2 hz2 h
  go_wp2_with (first
    | (go_at_call 33; (with_reducible refine cS.mono ?_); rintro e w2 ⟨rfl, hb3⟩; have x1 := keepc hb3 x0; have x2 := keepc (new_block w2 (.cells #[.int .i64 (cntT 3 t : Nat), .int .i64 (cntT 2 t : Nat), .int .i64 (cntT 1 t : Nat), .int .i64 (oc t t.n : Nat), .int .i64 0, .int .i64 0] 32)) x1)
    | (go_at_call 34; (with_reducible refine (entries_fn _ _).mono ?_); rintro e w' ⟨rfl, rfl⟩))
  have hbs := new_block w2 (.cells #[.int .i64 (cntT 3 t : Nat), .int .i64 (cntT 2 t : Nat), .int .i64 (cntT 1 t : Nat), .int .i64 (oc t t.n : Nat), .int .i64 0, .int .i64 0] 32)
  have hsb : ShBox w2.heap.size (cntT 3 t) (cntT 2 t) (cntT 1 t) (oc t t.n) 0 0 (w2.alloc (.cells #[.int .i64 (cntT 3 t : Nat), .int .i64 (cntT 2 t : Nat), .int .i64 (cntT 1 t : Nat), .int .i64 (oc t t.n : Nat), .int .i64 0, .int .i64 0] 32)) := ⟨World.alloc_heap_new w2 _⟩
  have hz4 : (w2.alloc (.cells #[.int .i64 (cntT 3 t : Nat), .int .i64 (cntT 2 t : Nat), .int .i64 (cntT 1 t : Nat), .int .i64 (oc t t.n : Nat), .int .i64 0, .int .i64 0] 32)).heap.size = w2.heap.size + 1 := World.size_alloc _ _
  have hz5 : w.heap.size + 2 ≤ w2.heap.size := by rw [← HZ2.out]; exact hb3.size
  generalize w2.alloc (.cells #[.int .i64 (cntT 3 t : Nat), .int .i64 (cntT 2 t : Nat), .int .i64 (cntT 1 t : Nat), .int .i64 (oc t t.n : Nat), .int .i64 0, .int .i64 0] 32) = w4 at *
  have hbn := new_block w4 (.cells #[.pointer (some ⟨T, 0, none⟩)] 25)
  have hbt := newc w4 (.pointer (some ⟨T, 0, none⟩)) 25
  have hz6 : (w4.alloc (.cells #[.pointer (some ⟨T, 0, none⟩)] 25)).heap.size = w2.heap.size + 2 := by rw [World.size_alloc, hz4]
  rw [hz4] at hbt
  have hL0 : LkI ae T B t (w2.heap.size + 1) w w.heap.size w2.heap.size (cntT 3 t) (cntT 2 t) (cntT 1 t) (oc t t.n) (mx (lkF t [])) (lkF t []).sum (w4.alloc (.cells #[.pointer (some ⟨T, 0, none⟩)] 25)) :=
    ⟨⟨((HH.out.below hb3).below hbs).below hbn, hbt⟩, keepc hbn x2, ((H2.out.2.2.keep hb3).keep hbs).keep hbn, hsb.keep hbn, under.below_step (under.below_step (under.below_step H2.out.1 hb3) hbs) hbn⟩
  generalize w4.alloc (.cells #[.pointer (some ⟨T, 0, none⟩)] 25) = W0 at *
  have h512 := ents_512 hok
  have hn64 := okN_le hok.n
  have hTt := HH.out.ft
  clear hbn hbt hsb hbs hb3 x0 x1 x2 H2 cS hz4
  generalize w2.heap.size = S at *
  clear HZ2
  have hfS : Far [S] := fun b hb => by obtain rfl : b = S := by simpa using hb
                                       have := HH.out.ft; omega
  refine (wpIn_wide (n := 3)).1 ?_
  refine (wpIn_rangeFunc_ownH (F := Fence.wide) (n := 3) rfl (by decide) (gf := 64) (lb := #[.pointer (some ⟨S + 1, 0, none⟩)]) rfl trivial (enters_of Tryz.func64 (by kernel_rfl) rfl)
    (ents_stops 2 (by decide) (S + 1) T B t ae [S] (by simp; omega) (by simp; omega) (by simp) hfS W0 (by simp; omega) hL0.it) KpD.trans (fun W l o o' _ h1 h2 _ => KpD.put W l o o' h1 h2) (Below.refl _ _) (fun _ => rfl)
    (fun pre W => LkI ae T B t (S + 1) w w.heap.size S (cntT 3 t) (cntT 2 t) (cntT 1 t) (oc t t.n) (mx (lkF t pre)) (lkF t pre).sum W)
    (fun _ _ _ => False)
    ?hI (fun _ _ _ _ _ hs _ _ => hs) hL0
    (fun x a' W => ∃ E, W.heap[E]? = some (.cells #[.int .u64 ((entN t x).key : Nat), .int .u64 ((entN t x).val : Nat), .int .u64 ((entN t x).hash : Nat)] 60 (0, 0)) ∧
      a' = { tmps := #[.pointer (some ⟨T, 0, none⟩), .pointer (some ⟨w.heap.size, 0, none⟩), .pointer (some ⟨w.heap.size + 1, 0, none⟩), .pointer (some ⟨S, 0, none⟩), .pointer (some ⟨E, 0, none⟩), undef, .pointer (some ⟨T, 0, none⟩), .bool false, undef, .pointer (some ⟨T, 0, none⟩), shV (cntT 3 t) (cntT 2 t) (cntT 1 t) (oc t t.n) 0 0, .pointer (some ⟨T, 0, none⟩), .func (.func 64) #[] #[.pointer (some ⟨S + 1, 0, none⟩)], group.entV (entN t x).key (entN t x).val (entN t x).hash, undef, undef, undef, undef, undef, undef, undef, undef, undef, undef, undef, undef, undef, undef], defers := [] })
    ?hAx ?assign ?body ?done ?stop)
  case hI =>
    intro s X Y row hs hg hr
    exact hs.own hok.n (by omega) hg hr
  case hAx =>
    rintro x a' s X Y row ⟨E, h2, h3⟩ hg hr
    exact ⟨E, (KpD.own hg fun r e => (hr r e).2).same E _ (by simp) h2 rfl, h3⟩
  case assign =>
    intro l pre x W K hI hK
    have hb := new_block W (.cells #[.int .u64 ((entN t x).key : Nat), .int .u64 ((entN t x).val : Nat), .int .u64 ((entN t x).hash : Nat)] 60)
    have hr := World.alloc_heap_new W (.cells #[.int .u64 ((entN t x).key : Nat), .int .u64 ((entN t x).val : Nat), .int .u64 ((entN t x).hash : Nat)] 60)
    gi_wp2
    exact hK _ _ (keeps_from (Past.of (d := []) hb) (by simp)) (KpD.of (Past.of hb)) (hI.keep hb) ⟨_, hr, rfl⟩
  case body =>
    rintro l pre x a' W hl _ hI ⟨E, hr, rfl⟩ hlen
    have hx := ents_ok hok (e := entN t x) (List.getElem_mem _)
    have cK := looks_any hI.it.rd (entN t x).key (entN t x).val (entN t x).hash hx.1.key hx.1.hash
    have hls := lkF_sum t pre
    have hle := looks_le t (entN t x).key (entN t x).hash
    have hs2 : (lkF t pre).sum ≤ 32768 := Nat.le_trans hls (Nat.le_trans (Nat.mul_le_mul hn64 (show pre.length ≤ 512 by omega)) (by decide))
    have HS := Lib.hid (lkF_snoc t pre x)
    have y0 : W.cell? ⟨E, 0, none⟩ = some (.int .u64 ((entN t x).key : Nat)) := by rw [cell_of_row _ _ _ _ _ _ hr]; rfl
    have y1 : W.cell? ⟨E, 1, none⟩ = some (.int .u64 ((entN t x).val : Nat)) := by rw [cell_of_row _ _ _ _ _ _ hr]; rfl
    have y2 : W.cell? ⟨E, 2, none⟩ = some (.int .u64 ((entN t x).hash : Nat)) := by rw [cell_of_row _ _ _ _ _ _ hr]; rfl
    have y3 := hI.xt
    have HI := Lib.hid hI
    have HM := Lib.hid (mx_snoc (lkF t pre) (table.looks t (entN t x).key (entN t x).hash))
    clear hI hr hls hx
    generalize table.looks t (entN t x).key (entN t x).hash = q at *
    generalize (entN t x).key = ek at *
    generalize (entN t x).val = ev at *
    generalize (entN t x).hash = eh at *
    generalize hmp : mx (lkF t pre) = p at HI HM
    generalize hsp : (lkF t pre).sum = s at HI hs2
    have e5 : IntKind.i64.wrap ((s : Int) + (q : Int)) = (s : Int) + (q : Int) := IntWalk.i64_in _ (by omega)
    have HP := Lib.hid (And.intro hmp hsp)
    clear hmp hsp
    have hfin : ∀ w6, Below W.heap.size W w6 → ∀ r, max p q = r → ∀ W', W' = ((w6.setCell ⟨S, 4, none⟩ (.int .i64 (r : Nat))).setCell ⟨S, 5, none⟩ (.int .i64 ((s + q : Nat) : Int))) →
        KeepsFrom W0.heap.size W W' ∧ KpD [S] W W' ∧ LkI ae T B t (S + 1) w w.heap.size S (cntT 3 t) (cntT 2 t) (cntT 1 t) (oc t t.n) (mx (lkF t (pre ++ [x]))) (lkF t (pre ++ [x])).sum W' := by
      intro w6 hb6 r hrq W' hW'
      have P : Past [S] W W' := by
        rw [hW']
        exact ((Past.of hb6).store (p := ⟨S, 4, none⟩) (.inl (by simp)) _).store (p := ⟨S, 5, none⟩) (.inl (by simp)) _
      refine ⟨keeps_from P (by simp; omega), KpD.of P, ?_⟩
      rw [HS.out, HM.out, hrq, List.sum_append, HP.out.2]
      have L6 := HI.out.keep hb6
      have hT' : T ≠ S := by omega
      have hB' : B ≠ S := by omega
      have L7 := L6.put hok.n 4 (.int .i64 (r : Nat)) (L6.s.set4 r) (by omega) (by omega) (by omega) hT' hB' (by omega) hfS
      have L8 := L7.put hok.n 5 (.int .i64 ((s + q : Nat) : Int)) (L7.s.set5 (s + q)) (by omega) (by omega) (by omega) hT' hB' (by omega) hfS
      rw [hW']
      simpa using L8
    have HF := Lib.hid hfin
    clear hfin
    rcases Nat.lt_or_ge p q with hpq | hpq
    · have hpq' : (p : Int) < (q : Int) := by omega
      gi_wp2_with (refine ⟨trivial, ?_⟩; gi_at_call 35; refine (CallsIn.inRound _ (callsIn_wide.2 cK)).mono ?_; rintro e w6 ⟨rfl, hb6⟩; have L6 := HI.out.keep hb6; have y4 := L6.s.c4; have y5 := L6.s.c5; have f4 := L6.s.fz 4; have f5 := L6.s.fz 5)
      exact HF.out w6 hb6 q (by omega) _ rfl
    · have hpq' : (q : Int) ≤ (p : Int) := by omega
      gi_wp2_with (refine ⟨trivial, ?_⟩; gi_at_call 35; refine (CallsIn.inRound _ (callsIn_wide.2 cK)).mono ?_; rintro e w6 ⟨rfl, hb6⟩; have L6 := HI.out.keep hb6; have y4 := L6.s.c4; have y5 := L6.s.c5; have f4 := L6.s.fz 4; have f5 := L6.s.fz 5)
      exact HF.out w6 hb6 p (by omega) _ rfl
  case done =>
    rintro D ys W hD rfl hI hK
    rw [lkF_all] at hI
    obtain ⟨p, hp⟩ : ∃ p, mx (lks t (ents t t.n)) = p := ⟨_, rfl⟩
    obtain ⟨s, hs⟩ : ∃ s, (lks t (ents t t.n)).sum = s := ⟨_, rfl⟩
    rw [hp, hs] at hI
    have HPS := Lib.hid (And.intro hp hs)
    clear hp hs
    have HI := Lib.hid hI
    have k0 := hI.s.c0
    have k1 := hI.s.c1
    have k2 := hI.s.c2
    have k3 := hI.s.c3
    have k4 := hI.s.c4
    have k5 := hI.s.c5
    have r0 := hI.r.c0
    have r1 := hI.r.c1
    have r2 := hI.r.c2
    have r3 := hI.r.c3
    have r4 := hI.r.c4
    have r5 := hI.r.c5
    have rf := hI.r.fz
    clear hI
    go_wp2
    obtain ⟨e1, e2, e3⟩ := lk_ret HI.out.r HI.out.bel (by omega) D (by omega) hK _ rfl
    refine ⟨by simp, .inl ⟨_, _, rfl, run_takeDeferred e1, ?_⟩⟩
    refine ⟨shV (cntT 3 t) (cntT 2 t) (cntT 1 t) (oc t t.n) p s, ?_, by rw [HPS.out.1, HPS.out.2], e3⟩
    simp [results, Tryz.f9, go_sem, e2.c0, e2.c1, e2.c2, e2.c3, e2.c4, e2.c5]
  case stop =>
    rintro D c pre W hD hpre hI hK
    exact hI.elim
end Go.Proofs.YtpllkopllhldcaaGreatDoor.sound

/-! ### sound: findsEachOnce, Check. -/
namespace Go.Proofs.YtpllkopllhldcaaGreatDoor.sound
open Go.ChangeShapes Go.WideShapes Go.ChangeAt Go.RowKit Go.Shelf swar under trap meter group probe lens tail call table
open Go.Maps (Keyed)
attribute [local go_sem] Oper.semAt_some stage.pureUpon move.stepUpon
set_option linter.unusedSimpArgs false
set_option linter.unusedVariables false

theorem key64 : Keyed Tryz.prog 34 := Maps.int_keyed Tryz.underlying34
theorem zeroB (w : World) : (zeroValue 4).run Tryz.prog w = .ok (.bool false) w := by kernel_rfl
theorem wf64 (k : Nat) (h : k < 18446744073709551616) : (Lit.int .u64 (k : Int)).wf = true := WalkArith.wf_u64 ⟨by omega, by omega⟩
set_option maxRecDepth 100000 in
theorem bool_inv {H : Type} {v : Value} {z : DataW H × List MemPlace} (h : plainElem Tryz.prog 4 v = some z) : ∃ x, v = .bool x ∧ z.1 = .lit (.bool x) := by
  unfold plainElem at h
  rw [Tryz.underlying4] at h
  cases v <;> simp at h
  exact ⟨_, rfl, by rw [← h]⟩
def keys (t : Tb) (pre : List (Fin (ents t t.n).length)) : List Nat := pre.map fun x => (entN t x).key
/-- the map holds the keys of the entries that have come -/
def SeenM (t : Tb) (pre : List (Fin (ents t t.n).length)) (b : Nat) (W : World) : Prop :=
  ∃ D : DataW Unit, Maps.IsMap D ∧ W.ownsMap Tryz.prog 34 (plainElem Tryz.prog 4) b pre.length D ∧ ∀ k : Nat, D.atKey (.int .u64 (k : Int)) (.lit (.bool false)) = .lit (.bool (decide (k ∈ keys t pre)))
theorem SeenM.new (t : Tb) (w : World) : SeenM t [] w.heap.size (w.alloc (.map #[] 0)) :=
  ⟨.map [], Maps.isMap_empty, World.ownsMap_made _ _ _ _, fun k => by simp [keys, DataW.atKey]⟩
theorem SeenM.kept {t : Tb} {pre : List (Fin (ents t t.n).length)} {b : Nat} {W W' : World} {row : Option Nat} (h : SeenM t pre b W) (hg : W.grownBy W' row) (hne : some b ≠ row) : SeenM t pre b W' := by
  obtain ⟨D, h1, h2, h3⟩ := h
  exact ⟨D, h1, h2.kept hg hne, h3⟩
theorem SeenM.obj {t : Tb} {pre : List (Fin (ents t t.n).length)} {b : Nat} {W : World} (h : SeenM t pre b W) : ∃ o : Obj, W.heap[b]? = some o ∧ o.isCells = false := by
  obtain ⟨D, h1, ⟨es, clock, hb, _⟩, h3⟩ := h
  exact ⟨_, hb, rfl⟩
theorem SeenM.look {t : Tb} {pre : List (Fin (ents t t.n).length)} {b : Nat} {W : World} (h : SeenM t pre b W) (k : Nat) (hk : k < 18446744073709551616) :
    (Instr.lookup 146 (.map (some b)) (.int .u64 (k : Int)) false).run Tryz.prog W = .ok (.bool (decide (k ∈ keys t pre))) W := by
  obtain ⟨D, h1, h2, h3⟩ := h
  obtain ⟨v, ps, hrun, hv⟩ := h2.lookup key64 Tryz.underlying146 (zeroB _) (plainElem_bool Tryz.underlying4 false) (Maps.keyOf_int_mk Tryz.underlying34 (wf64 k hk))
  obtain ⟨x, rfl, hx⟩ := bool_inv hv
  rw [h3 k] at hx
  simp only [DataW.lit.injEq, Lit.bool.injEq] at hx
  rw [hrun, hx]
theorem SeenM.step {t : Tb} {pre : List (Fin (ents t t.n).length)} {x : Fin (ents t t.n).length} {b : Nat} {W' : World} {D : DataW Unit} (h1 : Maps.IsMap D) (h3 : ∀ k : Nat, D.atKey (.int .u64 (k : Int)) (.lit (.bool false)) = .lit (.bool (decide (k ∈ keys t pre))))
    (h2 : W'.ownsMap Tryz.prog 34 (plainElem Tryz.prog 4) b (pre.length + 1) (D.put (.int .u64 (((entN t x).key : Nat) : Int)) (.lit (.bool true)))) : SeenM t (pre ++ [x]) b W' := by
  refine ⟨_, h1.put _ _, by rw [List.length_append]; exact h2, fun k => ?_⟩
  by_cases e : k = (entN t x).key
  · rw [e, Maps.atKey_put_same h1 (show WideAt.IsKeyLit (Lit.int .u64 _) from trivial)]
    simp [keys]
  · rw [Maps.atKey_put_other (by intro h; injection h with _ h; omega), h3 k]
    simp [keys, e]
theorem keys_ne {H : Nat → Nat} {t : Tb} (h : Inv H t) {x y : Fin (ents t t.n).length} (hne : x ≠ y) : (entN t x).key ≠ (entN t y).key := by
  have hp := List.pairwise_iff_getElem.1 (ents_keys h)
  rcases Nat.lt_or_ge x.val y.val with h1 | h1
  · exact hp x.val y.val x.isLt y.isLt h1
  · have : y.val < x.val := by
      rcases Nat.lt_or_ge y.val x.val with h2 | h2
      · exact h2
      · exact absurd (Fin.ext (by omega)) hne
    exact fun e => hp y.val x.val y.isLt x.isLt this e.symm
/-- of the entries in their order no key comes twice -/
theorem keys_new {H : Nat → Nat} {t : Tb} (h : Inv H t) {pre : List (Fin (ents t t.n).length)} {x : Fin (ents t t.n).length} (hp : pre ++ [x] <+: List.finRange (ents t t.n).length) : (entN t x).key ∉ keys t pre := by
  intro hm
  obtain ⟨y, hy, e⟩ := List.mem_map.1 hm
  have hnd : (pre ++ [x]).Nodup := List.Sublist.nodup hp.sublist (List.nodup_finRange _)
  rw [List.nodup_append] at hnd
  have hne : y ≠ x := hnd.2.2 y hy x (by simp)
  exact keys_ne h hne e
/-- within findsEachOnce -/
structure CkI (ae : String → Addr) (T B : Nat) (t : Tb) (w : World) (X : Nat) (pre : List (Fin (ents t t.n).length)) (W : World) : Prop where
  it : It ae T B t (X + 1 + 1 + 1 + 1) W
  xt : W.cell? ⟨X, 0, none⟩ = some (.pointer (some ⟨T, 0, none⟩))
  r : W.cell? ⟨X + 1, 0, none⟩ = some (.bool false)
  rf : W.frozen? ⟨X + 1, 0, none⟩ = false
  sb : W.cell? ⟨X + 1 + 1 + 1, 0, none⟩ = some (.map (some (X + 1 + 1)))
  sn : SeenM t pre (X + 1 + 1) W
  bel : Below w.heap.size w W
section
variable {ae : String → Addr} {T B : Nat} {t : Tb} {w : World} {X : Nat} {pre : List (Fin (ents t t.n).length)} {W W' : World}
theorem CkI.move (h : CkI ae T B t w X pre W) (hn : okN t.n) {pre' : List (Fin (ents t t.n).length)} (k : KpD [] W W') (hs : SeenM t pre' (X + 1 + 1) W') (hb : Below w.heap.size w W') : CkI ae T B t w X pre' W' :=
  ⟨h.it.kp k (by simp) (by simp) (by simp) (fun b hb => by cases hb) hn, k.cell h.xt (by simp), k.cell h.r (by simp), (World.frozen?_of_block (w := W) (k.block h.r (by simp))).trans h.rf, k.cell h.sb (by simp), hs, hb⟩
theorem CkI.keep (h : CkI ae T B t w X pre W) (hn : okN t.n) (hb : Below W.heap.size W W') : CkI ae T B t w X pre W' := h.move hn (KpD.of (Past.of hb)) (h.sn.kept (grown_of hb) (by simp)) (under.below_step h.bel hb)
theorem CkI.own (h : CkI ae T B t w X pre W) (hn : okN t.n) {row : Option Nat} {B0 : Nat} (hX : w.heap.size ≤ X) (hB0 : X + 5 ≤ B0) (hg : W.grownBy W' row) (hr : ∀ r, row = some r → B0 ≤ r ∧ ∃ o : Obj, W.heap[r]? = some o ∧ o.isCells = false) : CkI ae T B t w X pre W' :=
  h.move hn (KpD.own hg fun r e => (hr r e).2) (h.sn.kept hg fun e => by have := (hr _ e.symm).1; omega) (h.bel.grown hg h.bel.size fun r e => by have := (hr r e).1; omega)
end
set_option maxRecDepth 100000 in
set_option maxHeartbeats 4000000 in
theorem finds_any {ae : String → Addr} {T B : Nat} {t : Tb} {w : World} {H : Nat → Nat} (h : Ready ae T B t .nil Mt.zero w) (hI : Inv H t) :
    Calls Tryz.prog 42 #[.pointer (some ⟨T, 0, none⟩)] w fun e w' => e = .returned (.bool true) ∧ Below w.heap.size w w' := by
  have hok := h.ok
  have hmm := @run_makeMap Tryz.prog
  refine (callsIn_wide (n := 3)).1 (callsIn_of_wp_marks Tryz.func42 rfl trivial ?_ rfl)
  simp only [Tryz.ntmps42, List.size_toArray, List.length_cons, List.length_nil, Nat.reduceAdd, Nat.reduceSub, Array.replicate_succ, Array.replicate_zero, List.push_toArray, List.append_toArray, List.nil_append, List.cons_append]
  refine wpIn_wide.2 ?_
  go_wp2_with (first
    | (go_at_call 34; (with_reducible refine (entries_fn _ _).mono ?_); rintro e w' ⟨rfl, rfl⟩))
  have hb2 := two_new w (.cells #[.pointer (some ⟨T, 0, none⟩)] 25) (.cells #[.bool false] 4)
  have hz1 := World.size_alloc w (.cells #[.pointer (some ⟨T, 0, none⟩)] 25)
  have x0 := newc w (.pointer (some ⟨T, 0, none⟩)) 25
  have r0 := newc (w.alloc (.cells #[.pointer (some ⟨T, 0, none⟩)] 25)) (.bool false) 4
  have rf := newf (w.alloc (.cells #[.pointer (some ⟨T, 0, none⟩)] 25)) (.bool false) 4
  have x1 := keepc (new_block (w.alloc (.cells #[.pointer (some ⟨T, 0, none⟩)] 25)) (.cells #[.bool false] 4)) x0
  rw [hz1] at r0 rf
  have hz2 := World.size_alloc (w.alloc (.cells #[.pointer (some ⟨T, 0, none⟩)] 25)) (.cells #[.bool false] 4)
  rw [hz1] at hz2
  generalize (w.alloc (.cells #[.pointer (some ⟨T, 0, none⟩)] 25)).alloc (.cells #[.bool false] 4) = w2 at *
  have hb3 := new_block w2 (.map #[] 0)
  have hsn := SeenM.new t w2
  have hz3 := World.size_alloc w2 (.map #[] 0)
  rw [hz2] at hsn hz3
  generalize w2.alloc (.map #[] 0) = w3 at *
  have hb4 := new_block w3 (.cells #[.map (some (w.heap.size + 1 + 1))] 146)
  have sb := newc w3 (.map (some (w.heap.size + 1 + 1))) 146
  have hz4 := World.size_alloc w3 (.cells #[.map (some (w.heap.size + 1 + 1))] 146)
  rw [hz3] at sb hz4
  generalize w3.alloc (.cells #[.map (some (w.heap.size + 1 + 1))] 146) = w4 at *
  have hb5 := new_block w4 (.cells #[.pointer (some ⟨T, 0, none⟩)] 25)
  have bt := newc w4 (.pointer (some ⟨T, 0, none⟩)) 25
  have hz5 := World.size_alloc w4 (.cells #[.pointer (some ⟨T, 0, none⟩)] 25)
  rw [hz4] at bt hz5
  generalize w4.alloc (.cells #[.pointer (some ⟨T, 0, none⟩)] 25) = W0 at *
  have hb34 := under.below_step hb3 hb4
  have hb25 := under.below_step hb34 hb5
  have hC : CkI ae T B t w w.heap.size [] W0 :=
    ⟨⟨(h.below hb2).below hb25, bt⟩, keepc hb25 x1, keepc hb25 r0, keepf hb25 r0 rf, keepc hb5 sb, (hsn.kept (grown_of hb4) (by simp)).kept (grown_of hb5) (by simp), under.below_step hb2 hb25⟩
  have h512 := ents_512 hok
  have HI := Lib.hid hI
  clear hb2 hb3 hb4 hb5 hb34 hb25 bt sb hsn x0 x1 r0 rf hz1 hz2 hz3 hz4 h hI hmm
  generalize hXe : w.heap.size = X at *
  refine (wpIn_wide (n := 3)).1 ?_
  refine (wpIn_rangeFunc_ownH (F := Fence.wide) (n := 3) rfl (by decide) (gf := 64) (lb := #[.pointer (some ⟨X + 1 + 1 + 1 + 1, 0, none⟩)]) rfl trivial (enters_of Tryz.func64 (by kernel_rfl) rfl)
    (ents_stops 2 (by decide) (X + 1 + 1 + 1 + 1) T B t ae [] (by simp) (by simp) (by simp) (fun b hb => by cases hb) W0 (fun b hb => by cases hb) hC.it) KpD.trans (fun W l o o' _ h1 h2 _ => KpD.put W l o o' h1 h2) (Below.refl _ _) (fun _ => rfl)
    (fun pre W => CkI ae T B t w X pre W)
    (fun c pre W => c = .ret ∧ ¬ pre <+: List.finRange (ents t t.n).length)
    ?hI (fun _ _ _ _ _ hs _ _ => hs) hC
    (fun x a' W => ∃ E, W.heap[E]? = some (.cells #[.int .u64 ((entN t x).key : Nat), .int .u64 ((entN t x).val : Nat), .int .u64 ((entN t x).hash : Nat)] 60 (0, 0)) ∧
      a' = { tmps := #[.pointer (some ⟨T, 0, none⟩), .pointer (some ⟨X, 0, none⟩), .pointer (some ⟨X + 1, 0, none⟩), .pointer (some ⟨X + 1 + 1 + 1, 0, none⟩), .pointer (some ⟨E, 0, none⟩), undef, undef, .map (some (X + 1 + 1)), .pointer (some ⟨T, 0, none⟩), .func (.func 64) #[] #[.pointer (some ⟨X + 1 + 1 + 1 + 1, 0, none⟩)], group.entV (entN t x).key (entN t x).val (entN t x).hash, undef, undef, undef, undef, undef, undef, undef, undef, undef, undef, undef, undef, undef, undef, undef, undef, undef, undef, undef, undef, undef, undef, undef, undef, undef, undef], defers := [] })
    ?hAx ?assign ?body ?done ?stop)
  case hI =>
    intro s A B' row hs hg hr
    exact hs.own hok.n (by omega) (by omega) hg hr
  case hAx =>
    rintro x a' s A B' row ⟨E, h2, h3⟩ hg hr
    exact ⟨E, (KpD.own hg fun r e => (hr r e).2).same E _ (by simp) h2 rfl, h3⟩
  case assign =>
    intro l pre x W K hI hK
    have hb := new_block W (.cells #[.int .u64 ((entN t x).key : Nat), .int .u64 ((entN t x).val : Nat), .int .u64 ((entN t x).hash : Nat)] 60)
    have hr := World.alloc_heap_new W (.cells #[.int .u64 ((entN t x).key : Nat), .int .u64 ((entN t x).val : Nat), .int .u64 ((entN t x).hash : Nat)] 60)
    gi_wp2
    exact hK _ _ (keeps_from (Past.of (d := []) hb) (by simp)) (KpD.of (Past.of hb)) (hI.keep hok.n hb) ⟨_, hr, rfl⟩
  case body =>
    rintro l pre x a' W hl _ hI ⟨E, hr, rfl⟩ hlen
    have hx := ents_ok hok (e := entN t x) (List.getElem_mem _)
    have hf := ents_found HI.out (e := entN t x) (List.getElem_mem _)
    have cF := find_tab hI.it.rd (entN t x).key (entN t x).hash hx.1.key hx.1.hash
    rw [hf.1, hf.2] at cF
    simp only [Ln.p] at cF
    have HN := Lib.hid (show (entN t x).key ∈ keys t pre → ¬ pre ++ [x] <+: List.finRange (ents t t.n).length from fun hin hp => keys_new HI.out hp hin)
    have y0 : W.cell? ⟨E, 0, none⟩ = some (.int .u64 ((entN t x).key : Nat)) := by rw [cell_of_row _ _ _ _ _ _ hr]; rfl
    have y1 : W.cell? ⟨E, 1, none⟩ = some (.int .u64 ((entN t x).val : Nat)) := by rw [cell_of_row _ _ _ _ _ _ hr]; rfl
    have y2 : W.cell? ⟨E, 2, none⟩ = some (.int .u64 ((entN t x).hash : Nat)) := by rw [cell_of_row _ _ _ _ _ _ hr]; rfl
    have hk64 := hx.1.key
    have HS := Lib.hid (fun D W' h1 h3 h2 => SeenM.step (t := t) (pre := pre) (x := x) (b := X + 1 + 1) (W' := W') (D := D) h1 h3 h2)
    have y3 := hI.xt
    have HC := Lib.hid hI
    have HL := Lib.hid (fun W' (h : SeenM t pre (X + 1 + 1) W') => h.look (entN t x).key hk64)
    have hb7f : ∀ w6, LnStep [] Ln.nil (Ln.nil.see Mt.zero (table.looks t (entN t x).key (entN t x).hash)) W w6 → Below W.heap.size W (w6.alloc (.cells #[.int .u64 ((entN t x).key : Nat), .int .u64 ((entN t x).val : Nat), .int .u64 ((entN t x).hash : Nat)] 60)) := fun w6 hs =>
      under.below_step (hs.past.below (Nat.le_refl _) (by simp [Ln.d])) (new_block w6 _)
    have HB7 := Lib.hid hb7f
    clear hI hr hx hf hb7f
    generalize table.looks t (entN t x).key (entN t x).hash = lk at *
    by_cases hin : (entN t x).key ∈ keys t pre
    · have HP := Lib.hid (HN.out hin)
      rw [decide_eq_true hin] at HL
      clear HN hin HS
      generalize (entN t x).key = ek at *
      generalize (entN t x).val = ev at *
      generalize (entN t x).hash = eh at *
      gi_wp2_with (refine ⟨trivial, ?_⟩; gi_at_call 68; refine (CallsIn.inRound _ (callsIn_wide.2 cF)).mono ?_; rintro e w6 ⟨rfl, hs6⟩; have hb7 := HB7.out w6 hs6; have C7 := Lib.hid (HC.out.keep hok.n hb7); have z0 := keepc hb7 y0; have z1 := keepc hb7 y1; have z2 := keepc hb7 y2; have z3 := C7.out.sb; have zl := HL.out _ C7.out.sn; have zr := C7.out.r; have zf := C7.out.rf)
      exact ⟨(keeps_from (Past.of (d := []) hb7) (by simp)).trans ((KeepsOthers.setCell _ _ _).from _), rfl, HP.out⟩
    · rw [decide_eq_false hin] at HL
      clear HN hin
      generalize (entN t x).key = ek at *
      generalize (entN t x).val = ev at *
      generalize (entN t x).hash = eh at *
      have hlm : pre.length < maxLen := by unfold maxLen; omega
      gi_wp2_with (first
        | (refine ⟨trivial, ?_⟩; gi_at_call 68; refine (CallsIn.inRound _ (callsIn_wide.2 cF)).mono ?_; rintro e w6 ⟨rfl, hs6⟩; have hb7 := HB7.out w6 hs6; have C7 := Lib.hid (HC.out.keep hok.n hb7); have z0 := keepc hb7 y0; have z1 := keepc hb7 y1; have z2 := keepc hb7 y2; have z3 := C7.out.sb; have zl := HL.out _ C7.out.sn; obtain ⟨D, d1, d2, d3⟩ := C7.out.sn; have HD := Lib.hid (And.intro d1 d3); clear d1 d3)
        | (gi_at_mapUpdate; refine wpListIn_mapUpdate_own _ rfl _ _ _ 146 rfl 34 4 key64 Tryz.underlying146 _ (X + 1 + 1) pre.length D rfl d2 hlm _ _ (.int .u64 (ek : Int)) rfl rfl (Maps.keyOf_int_mk Tryz.underlying34 (wf64 ek hk64)) _ [] (plainElem_bool Tryz.underlying4 true) ?_; intro w8 hown8 hgrow8))
      refine ⟨(keeps_from (Past.of (d := []) hb7) (by simp)).trans (KeepsFrom.of_grownBy hgrow8 (fun j e => by cases e; omega)), (KpD.of (Past.of hb7)).trans (KpD.own hgrow8 (fun r e => by cases e; exact C7.out.sn.obj)), ?_⟩
      exact C7.out.move hok.n (KpD.own hgrow8 (fun r e => by cases e; exact C7.out.sn.obj)) (HS.out D w8 HD.out.1 HD.out.2 hown8) (C7.out.bel.grown hgrow8 C7.out.bel.size (fun r e => by cases e; omega))
  case done =>
    rintro D ys W hD rfl hI hK
    have k1 := hI.r
    have k2 := hI.rf
    have HI := Lib.hid hI
    clear hI
    go_wp2
    obtain ⟨e1, e2, e3⟩ := probe.once_end HI.out.bel HI.out.r (by omega) (by omega) (fun e => by
      obtain ⟨o, h1, h2⟩ := cells_of HI.out.r
      rw [← e] at h1
      rw [hK] at h1; cases h1; cases h2) hK
    refine ⟨by simp, .inl ⟨_, _, rfl, run_takeDeferred e1, ?_⟩⟩
    refine ⟨.bool true, ?_, rfl, e3⟩
    simp [results, Tryz.f42, go_sem, e2]
  case stop =>
    rintro D c pre W hD hpre ⟨_, hn⟩ hK
    exact absurd hpre hn
theorem check_any {ae : String → Addr} {T B : Nat} {t : Tb} {w : World} {H : Nat → Nat} (h : Ready ae T B t .nil Mt.zero w) (hI : Inv H t) :
    Calls Tryz.prog 14 #[.pointer (some ⟨T, 0, none⟩)] w fun e w' => e = .returned .nilIface ∧ Below w.heap.size w w' := by
  have c1 := counts_any T B t h.ok w h.at'
  have c2 := fun W (hb : Below w.heap.size w W) => finds_any (h.below hb) hI
  have hpt := ptr_tab ⟨T, 0, none⟩
  go_enter Tryz.func14, Tryz.ntmps14
  go_wp2_with (first
    | (go_at_call 41; refine c1.mono ?_; rintro e w1 ⟨rfl, hb1⟩)
    | (go_at_call 42; refine (c2 _ hb1).mono ?_; rintro e w2 ⟨rfl, hb2⟩))
  go_ret
  exact ⟨rfl, under.below_step hb1 hb2⟩
theorem ptr_none (w : World) : (Op.equalIn 10000 25 (.pointer none) (.pointer none)).run Tryz.prog w = .ok true w := by
  obtain ⟨j, hj, _⟩ := Option.map_eq_some_iff.1 szTab
  have h : ∀ d : Nat, (Op.equalIn (d + 1) 25 (.pointer none) (.pointer none)).run Tryz.prog w = .ok true w := fun d => by
    simp [Op.equalIn, run_underlying Tryz.underlying25, sizeOf, typeInfo, hj, sameAddr]
  exact h 9999
theorem check_nil (w : World) (x : Addr) (hr : w.cell? ⟨0, 0, none⟩ = some (errs.errV x)) :
    Calls Tryz.prog 14 #[.pointer none] w fun e w' => e = .returned (errs.errV x) ∧ Below w.heap.size w w' := by
  have hpt := ptr_none
  go_enter Tryz.func14, Tryz.ntmps14
  go_wp2
  go_ret
  exact ⟨rfl, Below.refl _ _⟩
set_option maxRecDepth 20000 in
theorem look_none (w : World) : Calls Tryz.prog 9 #[.pointer none] w fun e w' => e = .returned (shV 0 0 0 0 0 0) ∧ Below w.heap.size w w' := by
  have hpt := ptr_none
  have hb2 := two_new w (.cells #[.pointer none] 25) (.cells #[.int .i64 0, .int .i64 0, .int .i64 0, .int .i64 0, .int .i64 0, .int .i64 0] 32)
  go_enter Tryz.func9, Tryz.ntmps9
  go_wp2
  exact bodyPost_ret (v := shV 0 0 0 0 0 0) (by simp [results, Tryz.results9, go_sem]) rfl ⟨rfl, hb2⟩
end Go.Proofs.YtpllkopllhldcaaGreatDoor.sound

/-! ### sound: Path. -/
namespace Go.Proofs.YtpllkopllhldcaaGreatDoor.sound
open Go.ChangeShapes Go.WideShapes Go.ChangeAt Go.RowKit Go.Shelf swar under trap meter group probe lens tail call table
attribute [local go_sem] Oper.semAt_some stage.pureUpon move.stepUpon
set_option linter.unusedSimpArgs false
set_option linter.unusedVariables false

theorem row_base {w : World} {base base' : Nat} {e : TypeId} {size n : Nat} {v : Value} {xs : List Value} (h : w.ownsRow base e size v n xs) (hb : base' ≤ base) : w.ownsRow base' e size v n xs := by
  refine ⟨h.1, ?_⟩
  rcases h.2 with h2 | ⟨g, cap, cur, h1, h2, h3, h4⟩
  · exact .inl h2
  · exact .inr ⟨g, cap, cur, h1, Nat.le_trans hb h2, h3, h4⟩
/-- within Path: what lay ahead of the loop lies as it did, but the path's box; the path so far -/
structure PkI (n : Nat) (w W0 : World) (Pb : Nat) (pre : List (Fin n)) (W : World) : Prop where
  fr : ∀ b, b < W0.heap.size → b ≠ Pb → W.heap[b]? = W0.heap[b]?
  sz : W0.heap.size ≤ W.heap.size
  pb : ∃ v, Boxed W Pb 36 v ∧ W.ownsRow W0.heap.size 3 1 v pre.length ((pre.map Fin.val).map probe.enc) ∧ (v = .slice none 0 0 ↔ pre = [])
  bel : Below w.heap.size w W
section
variable {n : Nat} {w W0 : World} {Pb : Nat} {pre : List (Fin n)} {W W' : World}
theorem PkI.cell (h : PkI n w W0 Pb pre W) {p : Addr} {v : Value} (hp : p.block < W0.heap.size) (hne : p.block ≠ Pb) (hc : W0.cell? p = some v) : W.cell? p = some v := (World.cell?_of_block (w := W0) (h.fr p.block hp hne)).trans hc
theorem PkI.own (h : PkI n w W0 Pb pre W) {row : Option Nat} (hw : w.heap.size ≤ W0.heap.size) (hP : Pb < W0.heap.size) (hg : W.grownBy W' row) (hr : ∀ r, row = some r → W0.heap.size ≤ r ∧ ∃ o : Obj, W.heap[r]? = some o ∧ o.isCells = false) : PkI n w W0 Pb pre W' := by
  obtain ⟨v, h1, h2, h3⟩ := h.pb
  have h4 := holdsRow_own W0.heap.size Pb 36 3 1 (fun (pre : List (Fin n)) => pre.length) (fun (pre : List (Fin n)) => (pre.map Fin.val).map probe.enc) (fun pre v => v = .slice none 0 0 ↔ pre = []) pre W W' row ⟨v, h1, h2, h3⟩ hg (fun r e => (hr r e).2)
  exact ⟨fun b hb hne => (hg.block b (Nat.lt_of_lt_of_le hb h.sz) fun e => by have := (hr b e.symm).1; omega).trans (h.fr b hb hne), Nat.le_trans h.sz hg.size, h4, h.bel.grown hg h.bel.size fun r e => by have := (hr r e).1; omega⟩
theorem PkI.read (h : PkI n w W0 Pb pre W) (hw : w.heap.size ≤ W0.heap.size) (hP : Pb < W0.heap.size) (hb : Below W.heap.size W W') : PkI n w W0 Pb pre W' := h.own hw hP (grown_of hb) (fun r e => by cases e)
/-- the path is longer by one -/
theorem PkI.next (h : PkI n w W0 Pb pre W) (hw : w.heap.size ≤ W0.heap.size) (hP : Pb < W0.heap.size) (hwP : w.heap.size ≤ Pb) {x : Fin n} {v v' : Value} {w1 : World} {tmp : Obj} (hv : Boxed W Pb 36 v) (hrow : W.ownsRow W0.heap.size 3 1 v pre.length ((pre.map Fin.val).map probe.enc))
    (hown' : w1.ownsRow W0.heap.size 3 1 v' (pre.length + 1) ((pre.map Fin.val).map probe.enc ++ [.int .i64 (x.val : Nat)])) (hgrow : (W.alloc tmp).grownBy w1 v.ownBlock) :
    Boxed w1 Pb 36 v ∧ KeepsOthers W (w1.setCell ⟨Pb, 0, none⟩ v') ∧ PkI n w W0 Pb (pre ++ [x]) (w1.setCell ⟨Pb, 0, none⟩ v') := by
  obtain ⟨hv1, hv2, hr2, hk2, hb2⟩ := hv.appended (by decide) (row_base hrow (Nat.le_of_lt hP)) (Nat.le_trans (Nat.le_of_lt hP) h.sz) (Nat.le_refl _) (row_base hown' (Nat.le_of_lt hP)) hgrow
  have hge : ∀ r, v.ownBlock = some r → W0.heap.size ≤ r := fun r e => (World.ownsRow.lt (w := W) hrow r e).1
  have P : Past [Pb] w1 (w1.setCell ⟨Pb, 0, none⟩ v') := (Past.refl [Pb] w1).store (p := ⟨Pb, 0, none⟩) (.inl (by simp)) _
  refine ⟨hv1, hk2, fun b hb hne => ?_, Nat.le_trans h.sz hb2.size, ⟨v', hv2, ?_, ?_⟩, h.bel.trans (hb2.mono hwP)⟩
  · rw [Below.heap_setCell _ _ _ _ (show b ≠ Pb from hne), hgrow.block b (by simp; have := h.sz; omega) (fun e => by have := hge b e.symm; omega), Below.heap_alloc _ _ _ (by have := h.sz; omega)]
    exact h.fr b hb hne
  · have := row_past hown' P (fun b hb => by obtain rfl : b = Pb := by simpa using hb
                                             exact hP)
    simpa [probe.enc] using this
  · obtain ⟨g, c, rfl⟩ := ownsRow_succ hown'
    simp
end
def TxF (o : Option Addr) (l : List ByteArray) (G : Nat) (W : World) : Prop := ∀ j (hj : j < l.length), ∃ x, o = some x ∧ (x.add j).block < G ∧ W.cell? (x.add j) = some (.string l[j])
set_option maxRecDepth 100000 in
set_option maxHeartbeats 4000000 in
theorem path_any (T B : Nat) (t : Tb) (ht : t.Ok) (h : Nat) (hh : h < 18446744073709551616) (w : World) (hT : TAt T B t w) :
    Calls Tryz.prog 11 #[.pointer (some ⟨T, 0, none⟩), .int .u64 h] w fun e w' => ∃ v, e = .returned v ∧ probe.Kept w.heap.size w' v (po t h) ∧ Below w.heap.size w w' := by
  have hn := okN_le ht.n
  have hn0 := okN_pos ht.n
  have hpt := ptr_tab ⟨T, 0, none⟩
  have cT := text_tab T B t ht w hT
  have hl := texts_length t t.n
  have c1 := fun W => (split.h1_any h W).mono fun e w' (k : _ ∧ W = w') => (⟨k.1, k.2.symm⟩ : _ ∧ w' = W)
  refine (callsIn_wide (n := 3)).1 (callsIn_of_wp_marks Tryz.func11 rfl trivial ?_ rfl)
  simp only [Tryz.ntmps11, List.size_toArray, List.length_cons, List.length_nil, Nat.reduceAdd, Nat.reduceSub, Array.replicate_succ, Array.replicate_zero, List.push_toArray, List.append_toArray, List.nil_append, List.cons_append]
  refine wpIn_wide.2 ?_
  go_wp2_with (go_at_call 17; refine cT.mono ?_; rintro e w1 ⟨v, rfl, hK, hb1⟩; obtain ⟨o, c, e0, hx⟩ := hK.texts; subst e0; rw [hl] at *)
  have hTx : TxF o (texts t t.n) w1.heap.size w1 := fun j hj => by
    obtain ⟨x, e, hc⟩ := hx j hj
    exact ⟨x, e, World.block_lt_of_cell? w1 _ hc, hc⟩
  have hb2 := two_new w1 (.cells #[.slice o t.n c] 46) (.cells #[.slice none 0 0] 36)
  have g0 := newc w1 (.slice o t.n c) 46
  have g1 := keepc (new_block (w1.alloc (.cells #[.slice o t.n c] 46)) (.cells #[.slice none 0 0] 36)) g0
  have p0 := Boxed.new (w1.alloc (.cells #[.slice o t.n c] 46)) 36 (.slice none 0 0)
  have hz1 := World.size_alloc w1 (.cells #[.slice o t.n c] 46)
  have hz2 := World.size_alloc (w1.alloc (.cells #[.slice o t.n c] 46)) (.cells #[.slice none 0 0] 36)
  rw [hz1] at p0 hz2
  have hTx2 : TxF o (texts t t.n) w1.heap.size _ := fun j hj => by
    obtain ⟨x, e, hlt, hc⟩ := hTx j hj
    exact ⟨x, e, hlt, keepc hb2 hc⟩
  have HB := Lib.hid (And.intro hb1 hb2)
  have HX := Lib.hid (And.intro hTx2 (And.intro p0 hz2))
  clear hTx hTx2 p0 hz2 hb1 hb2 hK hx
  refine wp_region_tail_drew 4 (by kernel_rfl) (by kernel_rfl) ?_
  simp only [List.take_succ_cons, List.take_zero, List.drop_succ_cons, List.drop_zero]
  repeat (quiet_step ((go_at_call 18; exact Calls.quiet_of_same (c1 _))))
  refine wpQuiet_nil ?_
  intro w4 hw4
  obtain ⟨q, rfl⟩ := hw4
  go_wp2_with (go_at_call 36; refine (walk_any _ _ _).mono ?_; rintro e w' ⟨rfl, rfl⟩)
  have e128 : ((h : Nat) : Int) / 128 = ((h / 128 : Nat) : Int) := by omega
  rw [e128]
  clear e128 c1 cT g0 g1
  obtain ⟨W2, hW2⟩ : ∃ W2, (w1.alloc (.cells #[.slice o t.n c] 46)).alloc (.cells #[.slice none 0 0] 36) = W2 := ⟨_, rfl⟩
  rw [hW2] at HB HX ⊢
  have g1 : W2.cell? ⟨w1.heap.size, 0, none⟩ = some (.slice o t.n c) := by rw [← hW2]; exact keepc (new_block _ _) (newc w1 (.slice o t.n c) 46)
  clear hW2
  have hz2 := HX.out.2.2
  have hb4 := two_new (W2.drewN q) (.cells #[.int .u64 ((h / 128 : Nat) : Int)] 34) (.cells #[.int .i64 (t.n : Nat)] 3)
  have b0 := keepc (new_block ((W2.drewN q).alloc (.cells #[.int .u64 ((h / 128 : Nat) : Int)] 34)) (.cells #[.int .i64 (t.n : Nat)] 3)) (newc (W2.drewN q) (.int .u64 ((h / 128 : Nat) : Int)) 34)
  have b1 := newc ((W2.drewN q).alloc (.cells #[.int .u64 ((h / 128 : Nat) : Int)] 34)) (.int .i64 (t.n : Nat)) 3
  have hzq : (W2.drewN q).heap.size = w1.heap.size + 1 + 1 := hz2
  have hz3 := World.size_alloc (W2.drewN q) (.cells #[.int .u64 ((h / 128 : Nat) : Int)] 34)
  have hz4 := World.size_alloc ((W2.drewN q).alloc (.cells #[.int .u64 ((h / 128 : Nat) : Int)] 34)) (.cells #[.int .i64 (t.n : Nat)] 3)
  rw [hzq] at b0 hz3
  rw [hz3] at b1 hz4
  have hbq := below_drewN' W2 q
  have hb24 : Below W2.heap.size W2 _ := under.below_step hbq hb4
  generalize ((W2.drewN q).alloc (.cells #[.int .u64 ((h / 128 : Nat) : Int)] 34)).alloc (.cells #[.int .i64 (t.n : Nat)] 3) = W0 at *
  have hTx : TxF o (texts t t.n) w1.heap.size W0 := fun j hj => by
    obtain ⟨x, e, hlt, hc⟩ := HX.out.1 j hj
    exact ⟨x, e, hlt, keepc hb24 hc⟩
  have gW := keepc hb24 g1
  have pW : Boxed W0 (w1.heap.size + 1) 36 (.slice none 0 0) := HX.out.2.1.kept (grown_of hb24) (by simp)
  have hw1 := HB.out.1.size
  have hbW := under.below_step HB.out.1 (under.below_step HB.out.2 hb24)
  have hP0 : PkI t.n w W0 (w1.heap.size + 1) [] W0 := ⟨fun _ _ _ => rfl, Nat.le_refl _, ⟨_, pW, ⟨rfl, .inl ⟨rfl, rfl⟩⟩, by simp⟩, hbW⟩
  clear hz3 hzq g1 hbq hb24 hb4 pW hz2 HX HB hbW
  generalize w1.heap.size = G at *
  obtain ⟨i0, hi, hq0, hq1, hq2⟩ := info_parts infoInt
  refine (wpIn_wide (n := 3)).1 ?_
  refine (wpIn_rangeFunc_ownG (F := Fence.wide) (n := 3) rfl (by decide) (gf := 71) (lb := #[.pointer (some ⟨G + 1 + 1 + 1, 0, none⟩), .pointer (some ⟨G + 1 + 1, 0, none⟩)]) rfl trivial (enters_of Tryz.func71 (by kernel_rfl) rfl)
    (walk_stopsF 2 (by decide) _ _ (h / 128) t.n ht.n W0 (by omega) (by omega) b1 b0) keepB_t (keepB_b (by omega) (by omega)) (Below.refl _ _) (fun _ => rfl)
    (fun pre W => (∀ i ∈ pre, opens (t.gs (Fin.val i)) = false) ∧ PkI t.n w W0 (G + 1) pre W)
    (fun c pre W => c = .exit 0 ∧ (∃ p x, pre = p ++ [x] ∧ (∀ i ∈ p, opens (t.gs (Fin.val i)) = false) ∧ opens (t.gs (Fin.val x)) = true) ∧ PkI t.n w W0 (G + 1) pre W)
    ?hI ?hIx ⟨by simp, hP0⟩ ?a1 ?assign ?body ?done ?stop)
  case assign =>
    intro l x W K hK
    gi_wp2
    exact hK
  case hI =>
    intro s A B' row hs hg hr
    exact ⟨hs.1, hs.2.own (by omega) (by omega) hg hr⟩
  case hIx =>
    intro c s A B' row hs hg hr
    exact ⟨hs.1, hs.2.1, hs.2.2.own (by omega) (by omega) hg hr⟩
  case body =>
    rintro l pre x W ⟨hno, hI⟩ hlen
    have hxn := x.isLt
    have hxi : ((x.val : Nat) : Int) < (t.n : Int) := by omega
    obtain ⟨v, hv, hrow, hnil⟩ := hI.pb
    obtain ⟨y, rfl, hyl, hyc⟩ := hTx x.val (by rw [texts_length]; exact hxn)
    have etx : (texts t t.n)[x.val]'(by rw [texts_length]; exact hxn) = txt (t.gs x.val) := by simp [texts, txt]
    rw [etx] at hyc
    have hc := hv.cell
    have hgc := hI.cell (p := ⟨G, 0, none⟩) (by show G < _; omega) (by show G ≠ _; omega) gW
    have hyw := hI.cell (by omega) (by omega) hyc
    have cO := fun W => open_any (t.gs x.val) (ht.gs x.val) W
    have HI := Lib.hid hI
    have HNo := Lib.hid hno
    have HV := Lib.hid (And.intro hv hrow)
    have hsz := hI.sz
    have hyl' : (y.add x.val).block < W0.heap.size := by omega
    have hyn : (y.add x.val).block ≠ G + 1 := by omega
    have hpl : pre.length < 64 := by omega
    clear hI hno hv hrow hnil etx hTx
    cases hop : opens (t.gs x.val)
    · rw [hop] at cO
      have HO := Lib.hid hop
      clear hop
      generalize txt (t.gs x.val) = tx at *
      gi_wp2_with (first
        | (gi_at_builtin; refine wpListIn_append_own _ rfl _ _ 36 rfl W0.heap.size 3 i0 (.int .i64 0) 1 8 Tryz.underlying36 hi hq0 hq1 hq2 rfl (by decide) _ _ _ rfl (HV.out.2.alloc _) ⟨W.heap.size, 0, none⟩ 1 1 [.int .i64 (x.val : Nat)] rfl rfl (table.cell_one_new _ _ _) (by simp [Value.oneCell']) (by simp only [maxLen]; omega) (by omega) (by simp; omega) ?_; intro v' w5 hown' hgrow _; obtain ⟨g', cap', rfl⟩ := ownsRow_succ hown'; obtain ⟨hv1, hk2, hI2⟩ := HI.out.next (by omega) (by omega) (by omega) HV.out.1 HV.out.2 hown' hgrow; have hc1 := hv1.cell; have hf1 := hv1.frozen; have hgc2 := hI2.cell (p := ⟨G, 0, none⟩) (by show G < _; omega) (by show G ≠ _; omega) gW; have hyw2 := hI2.cell hyl' hyn hyc)
        | (refine ⟨trivial, ?_⟩; gi_at_call 37; refine (CallsIn.inRound _ (callsIn_wide.2 (cO _))).mono ?_; rintro e w6 ⟨rfl, rfl⟩))
      refine ⟨hk2.from _, ?_, ?_, hI2⟩
      · exact ⟨(World.cell?_of_block (w := W0) (hI2.fr _ (by show G + 1 + 1 + 1 < _; omega) (by show G + 1 + 1 + 1 ≠ _; omega))).trans (World.cell?_of_block (w := W0) (HI.out.fr _ (by show G + 1 + 1 + 1 < _; omega) (by show G + 1 + 1 + 1 ≠ _; omega))).symm, (World.cell?_of_block (w := W0) (hI2.fr _ (by show G + 1 + 1 < _; omega) (by show G + 1 + 1 ≠ _; omega))).trans (World.cell?_of_block (w := W0) (HI.out.fr _ (by show G + 1 + 1 < _; omega) (by show G + 1 + 1 ≠ _; omega))).symm⟩
      · intro i hi
        rcases List.mem_append.1 hi with hi | hi
        · exact HNo.out i hi
        · obtain rfl : i = x := by simpa using hi
          exact HO.out
    · rw [hop] at cO
      have HO := Lib.hid hop
      clear hop
      generalize txt (t.gs x.val) = tx at *
      gi_wp2_with (first
        | (gi_at_builtin; refine wpListIn_append_own _ rfl _ _ 36 rfl W0.heap.size 3 i0 (.int .i64 0) 1 8 Tryz.underlying36 hi hq0 hq1 hq2 rfl (by decide) _ _ _ rfl (HV.out.2.alloc _) ⟨W.heap.size, 0, none⟩ 1 1 [.int .i64 (x.val : Nat)] rfl rfl (table.cell_one_new _ _ _) (by simp [Value.oneCell']) (by simp only [maxLen]; omega) (by omega) (by simp; omega) ?_; intro v' w5 hown' hgrow _; obtain ⟨g', cap', rfl⟩ := ownsRow_succ hown'; obtain ⟨hv1, hk2, hI2⟩ := HI.out.next (by omega) (by omega) (by omega) HV.out.1 HV.out.2 hown' hgrow; have hc1 := hv1.cell; have hf1 := hv1.frozen; have hgc2 := hI2.cell (p := ⟨G, 0, none⟩) (by show G < _; omega) (by show G ≠ _; omega) gW; have hyw2 := hI2.cell hyl' hyn hyc)
        | (refine ⟨trivial, ?_⟩; gi_at_call 37; refine (CallsIn.inRound _ (callsIn_wide.2 (cO _))).mono ?_; rintro e w6 ⟨rfl, rfl⟩))
      exact ⟨hk2.from _, rfl, ⟨pre, x, rfl, HNo.out, HO.out⟩, hI2⟩
  case done =>
    rintro D ys W hD hys ⟨hno, hI⟩ hK
    have hpo : po t h = ys.map Fin.val := by
      unfold po path
      rw [← hys]
      refine seen_all fun i hi => ?_
      obtain ⟨j, hj, rfl⟩ := List.mem_map.1 hi
      exact hno j hj
    obtain ⟨v, hv, hrow, hnil⟩ := hI.pb
    have hc := hv.cell
    have hrow3 := ownsRow_putObj hrow (.deferred none) hK rfl
    have hbK : Below w.heap.size w (W.putObj D (.deferred none)) := hI.bel.grown (grownBy_putObj' W D (.deferred none)) hI.bel.size (fun r e => by cases e; omega)
    have HF := Lib.hid (show probe.Kept w.heap.size (W.putObj D (.deferred none)) v (po t h) from by
      rw [hpo]
      exact ⟨by rw [List.length_map]; exact row_base hrow3 (by omega), by rw [hnil]; simp⟩)
    clear hrow3 hrow hnil hv hI hno hys hpo
    go_wp2
    refine ⟨by simp, .inl ⟨_, _, rfl, run_takeDeferred hK, ?_⟩⟩
    refine ⟨_, results_tmp rfl _ _ _, ?_⟩
    exact ⟨v, rfl, HF.out, hbK⟩
  case stop =>
    rintro D c pre W hD hpre ⟨rfl, ⟨p, x, rfl, hno, hx⟩, hI⟩ hK
    have hpo : po t h = (p ++ [x]).map Fin.val := by
      rw [List.map_append] at hpre ⊢
      refine seen_at (p := fun i => opens (t.gs i)) hx hpre fun i hi => ?_
      obtain ⟨j, hj, rfl⟩ := List.mem_map.1 hi
      exact hno j hj
    obtain ⟨v, hv, hrow, hnil⟩ := hI.pb
    have hc := hv.cell
    have hrow3 := ownsRow_putObj hrow (.deferred none) hK rfl
    have hbK : Below w.heap.size w (W.putObj D (.deferred none)) := hI.bel.grown (grownBy_putObj' W D (.deferred none)) hI.bel.size (fun r e => by cases e; omega)
    have HF := Lib.hid (show probe.Kept w.heap.size (W.putObj D (.deferred none)) v (po t h) from by
      rw [hpo]
      exact ⟨by rw [List.length_map]; exact row_base hrow3 (by omega), by rw [hnil]; simp⟩)
    clear hrow3 hrow hnil hv hI hno hpo hpre hx
    refine wpIn_wide.2 ?_
    go_wp2
    refine ⟨by simp, .inl ⟨_, _, rfl, run_takeDeferred hK, ?_⟩⟩
    refine ⟨_, results_tmp rfl _ _ _, ?_⟩
    exact ⟨v, rfl, HF.out, hbK⟩
theorem path_none (h : Nat) (w : World) : Calls Tryz.prog 11 #[.pointer none, .int .u64 h] w fun e w' => e = .returned (.slice none 0 0) ∧ Below w.heap.size w w' := by
  have hpt := ptr_none
  go_enter Tryz.func11, Tryz.ntmps11
  go_wp2
  go_ret
  exact ⟨rfl, Below.refl _ _⟩
end Go.Proofs.YtpllkopllhldcaaGreatDoor.sound
