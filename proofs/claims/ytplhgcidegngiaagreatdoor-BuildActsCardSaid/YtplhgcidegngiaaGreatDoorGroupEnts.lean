/- group: Entries. -/
import Derived.Test.YtplhgcidegngiaaGreatDoorGroupFns
import Derived.Test.YtplhgcidegngiaaGreatDoorKit
namespace Go.Proofs.YtplhgcidegngiaaGreatDoor.group
open Go.ChangeShapes Go.WideShapes Go.ChangeAt Go.RowKit Go.Shelf swar trap under meter tail
attribute [local go_sem] Oper.semAt_some stage.pureUpon move.stepUpon
set_option linter.unusedSimpArgs false
set_option linter.unusedVariables false
/-- the cells of the entries of some slots -/
def ent (s : Sl) : List Value := [.int .u64 (s.key : Nat), .int .u64 (s.val : Nat), .int .u64 (s.hash : Nat)]
def rows (g : Gp) (l : List Nat) : List Value := l.flatMap fun k => ent (g k)
theorem rows_snoc (g : Gp) (l : List Nat) (k : Nat) : rows g (l ++ [k]) = rows g l ++ ent (g k) := by simp [rows]
theorem rows_length (g : Gp) : ∀ l : List Nat, (rows g l).length = l.length * 3
  | [] => rfl
  | k :: l => by have := rows_length g l; simp [rows, ent] at this ⊢; omega
theorem rows_at (g : Gp) : ∀ (l : List Nat) (j d : Nat) (hj : j < l.length), d < 3 → (rows g l)[j * 3 + d]? = (ent (g l[j]))[d]?
  | k :: l, 0, d, _, hd => by
    have h : rows g (k :: l) = ent (g k) ++ rows g l := by simp [rows]
    rw [h, Nat.zero_mul, Nat.zero_add, List.getElem?_append_left (by simp [ent]; omega)]; rfl
  | k :: l, j + 1, d, hj, hd => by
    have h : rows g (k :: l) = ent (g k) ++ rows g l := by simp [rows]
    rw [h, List.getElem?_append_right (by simp [ent]; omega)]
    have e : (j + 1) * 3 + d - (ent (g k)).length = j * 3 + d := by simp [ent]; omega
    rw [e]
    exact rows_at g l j d (by simpa using hj) hd
theorem infoEnt : (Tryz.prog.info? 86).map (fun i => (i.zero, i.size, i.bytes)) = some (some (.agg #[.int .u64 0, .int .u64 0, .int .u64 0]), 3, 24) := by kernel_rfl
/-- a slice of the call's own holds the entries of some slots -/
def Kept (base : Nat) (W : World) (v : Value) (g : Gp) (l : List Nat) : Prop := W.ownsRow base 86 3 v l.length (rows g l)
structure EntsOk (B o : Nat) (g : Gp) (w : World) (pre : List (Fin 8)) (W : World) : Prop where
  row : ∃ v, Boxed W (w.heap.size + 1) 110 v ∧ Kept w.heap.size W v g (pre.map Fin.val) ∧ True
  vw : Boxed W w.heap.size 74 (.pointer (some ⟨B, o, none⟩))
  below : Below w.heap.size w W
/-- the worlds of a round's region: ahead of the made slice, behind it -/
def EntD (W : World) (s : Sl) : Nat → World → Prop
  | 0 => fun w' => ∃ q, w' = W.drewN q
  | _ => fun w' => ∃ q, w' = (W.drewN q).alloc (.cells #[.int .u64 (s.key : Nat), .int .u64 (s.val : Nat), .int .u64 (s.hash : Nat)] 86)
theorem EntD.cell {W : World} {s : Sl} {p : Addr} {v : Value} (h : W.cell? p = some v) (q : stage.Un (EntD W s)) : q.W.cell? p = some v := by
  obtain ⟨i, w', h'⟩ := q
  match i, h' with
  | 0, ⟨q, e⟩ => show w'.cell? p = _; rw [e]; exact h
  | i + 1, ⟨q, e⟩ =>
    show w'.cell? p = _
    rw [e]
    have hlt := World.block_lt_of_cell? W p h
    exact ((new_block (W.drewN q) _).cell hlt).trans h
theorem cell_three_new (w : World) (a b c : Value) (t : TypeId) : ∀ j u, [a, b, c][j]? = some u → (w.alloc (.cells #[a, b, c] t)).cell? ((⟨w.heap.size, 0, none⟩ : Addr).add j) = some u := by
  intro j u hj
  have hr := World.alloc_heap_new w (.cells #[a, b, c] t)
  have hadd : (⟨w.heap.size, 0, none⟩ : Addr).add j = ⟨w.heap.size, j, none⟩ := by unfold Addr.add; split <;> simp_all
  rw [hadd, cell_of_row _ _ j _ _ _ hr]
  simpa using hj
set_option maxRecDepth 100000 in
set_option maxHeartbeats 4000000 in
theorem entries_any (B o : Nat) (g : Gp) (hg : g.Ok) (w : World) (ha : GAt B o g w) (hT : TabOk w) :
    Calls Tryz.prog 59 #[.agg #[.pointer (some ⟨B, o, none⟩)]] w fun e w' => ∃ v, e = .returned v ∧ Kept w.heap.size w' v g (fulls g) ∧ Below w.heap.size w w' := by
  have hw := ha.word
  have hlt := ha.lt
  have c1 := ctrl.fulls_any (group.word g) (word_lt g)
  rw [m_fulls hg] at c1
  refine (callsIn_wide (n := 3)).1 (callsIn_of_wp_marks Tryz.func59 rfl trivial ?_ rfl)
  simp only [Tryz.ntmps59, List.size_toArray, List.length_cons, List.length_nil, Nat.reduceAdd, Nat.reduceSub, Array.replicate_succ, Array.replicate_zero, List.push_toArray, List.append_toArray, List.nil_append, List.cons_append]
  refine wpIn_wide.2 ?_
  go_wp2_with (first
    | (go_at_call 71; refine (c1 _).mono ?_; rintro e w' ⟨rfl, rfl⟩)
    | (go_at_call 70; refine (lanes_any _ _).mono ?_; rintro e w' ⟨rfl, rfl⟩))
  obtain ⟨i0, hi0, hq0, hq1, hq2⟩ := info_parts infoEnt
  obtain ⟨w1, h1⟩ : ∃ w1, w.alloc (.cells #[.pointer (some ⟨B, o, none⟩)] 74) = w1 := ⟨_, rfl⟩
  have z1 : w1.heap.size = w.heap.size + 1 := by rw [← h1]; exact World.size_alloc _ _
  have x1 : Boxed w1 w.heap.size 74 (.pointer (some ⟨B, o, none⟩)) := by rw [← h1]; exact Boxed.new w _ _
  have b1 : Below w.heap.size w w1 := by rw [← h1]; exact new_block w _
  rw [h1]
  obtain ⟨w2, h2⟩ : ∃ w2, w1.alloc (.cells #[.slice none 0 0] 110) = w2 := ⟨_, rfl⟩
  have z2 : w2.heap.size = w.heap.size + 1 + 1 := by rw [← h2, World.size_alloc, z1]
  have x2 : Boxed w2 (w.heap.size + 1) 110 (.slice none 0 0) := by rw [← h2, ← z1]; exact Boxed.new w1 _ _
  have b2 : Below w.heap.size w w2 := by rw [← h2]; exact under.below_step b1 (new_block w1 _)
  have y2 : Boxed w2 w.heap.size 74 (.pointer (some ⟨B, o, none⟩)) := by rw [← h2]; exact x1.alloc _
  rw [h2]
  obtain ⟨W0, h3⟩ : ∃ W0, w2.alloc (.cells #[.int .u64 (mkM (is 3 g) : Nat)] 84) = W0 := ⟨_, rfl⟩
  have z3 : W0.heap.size = w.heap.size + 3 := by rw [← h3, World.size_alloc, z2]
  have x3 : W0.cell? ⟨w.heap.size + 1 + 1, 0, none⟩ = some (.int .u64 (mkM (is 3 g) : Nat)) := by rw [← h3, ← z2]; exact (Boxed.new w2 _ _).cell
  have hS0 : EntsOk B o g w [] W0 := by
    rw [← h3]
    exact ⟨⟨_, x2.alloc _, ⟨rfl, .inl ⟨rfl, rfl⟩⟩, trivial⟩, y2.alloc _, under.below_step b2 (new_block w2 _)⟩
  have hT0 := hT.below hS0.below hT.lt
  rw [h3]
  clear h1 h2 h3 z1 x1 b1 z2 x2 b2 y2 w1 w2 c1 hw
  refine (wpIn_wide (n := 3)).1 ?_
  refine (wpIn_rangeFunc_ownG (F := Fence.wide) (n := 3) rfl (by decide) (gf := 87) (lb := #[.pointer (some ⟨w.heap.size + 1 + 1, 0, none⟩)]) rfl trivial (enters_of Tryz.func87 (by kernel_rfl) rfl)
    (lanes_stops8 2 (by decide) (w.heap.size + 1 + 1) w.heap.size (mkM (is 3 g)) (mkM_lt _) W0 (by omega) hT.lt x3 hT0) belowK_t (belowK_b (by omega)) (Below.refl _ _) (fun _ => rfl)
    (fun pre W => EntsOk B o g w pre W)
    (fun _ _ _ => False)
    ?hI (fun _ _ _ _ _ hs _ _ => hs) hS0 ?a1 ?assign ?body ?done ?stop)
  case assign =>
    intro l x W K hK
    gi_wp2
    exact hK
  case hI =>
    intro s X Y row h hg' hr
    have hr' : ∀ r, row = some r → ∃ o : Obj, X.heap[r]? = some o ∧ o.isCells = false := fun r e => (hr r e).2
    refine ⟨?_, h.vw.kept hg' (fun e' => ?_), h.below.grown hg' h.below.size (fun k e => by have := (hr k e).1; omega)⟩
    · exact holdsRow_own w.heap.size (w.heap.size + 1) 110 86 3 (fun (pre : List (Fin 8)) => (pre.map Fin.val).length) (fun (pre : List (Fin 8)) => rows g (pre.map Fin.val)) (fun _ _ => True) s X Y row h.row hg' hr'
    · obtain ⟨ob, ho, hc⟩ := hr' _ e'.symm
      rw [show X.heap[w.heap.size]? = _ from h.vw] at ho; cases ho; cases hc
  case body =>
    rintro l pre x W hI hlen
    have hlen8 : pre.length < 8 := by
      have h8 := tl_length (mkM (is 3 g))
      rw [cnt_is] at h8
      have := count_le 3 g
      omega
    clear hlen
    have hx8 := x.isLt
    have hxi : ((x.val : Nat) : Int) < 8 := by omega
    obtain ⟨v, hv, hrow, _⟩ := hI.row
    have hG := ha.below hI.below
    have fv := hI.vw.cell
    have fl := hv.cell
    have e1 := hG.key x.val hx8
    have e2 := hG.val x.val hx8
    have e3 := hG.hash x.val hx8
    have HI := Lib.hid hI
    have HV := Lib.hid hv
    have HR := Lib.hid hrow
    clear hI hv hrow hG
    gi_wp2
    have ql := EntD.cell (s := g x.val) fl
    have qv := EntD.cell (s := g x.val) fv
    have q1 := EntD.cell (s := g x.val) e1
    have q2 := EntD.cell (s := g x.val) e2
    have q3 := EntD.cell (s := g x.val) e3
    haveI : Nonempty (stage.Un (EntD W (g x.val))) := ⟨⟨0, W, 0, rfl⟩⟩
    refine move.region (D := EntD W (g x.val)) 9 [false, false, false, false, false, false, false, false, true] (by kernel_rfl) (by kernel_rfl) (by kernel_rfl) ⟨1, rfl⟩ ?_
    simp only [List.take_succ_cons, List.take_zero, List.drop_succ_cons, List.drop_zero]
    iterate 8
      refine move.pure_step (by unfold move.asked; quiet_asked_in) (fun K hK => ?_)
      go_simp
      refine hK _ ?_
      clear hK K
    refine move.move_step (v := .slice (some ⟨W.heap.size, 0, none⟩) 1 1) (by unfold move.asked; quiet_asked_in) (by kernel_rfl) (fun wd hd => ?_) (fun K hK => ?_)
    · obtain ⟨q, rfl⟩ := hd
      go_simp
      exact ⟨q, rfl⟩
    · refine hK _ ?_
      clear hK K
      refine move.nil_step ?_
      rintro w' ⟨n5, rfl⟩
      have hz5 : (W.drewN n5).heap.size = W.heap.size := rfl
      have k5 := keeps_drewN W n5
      have b5 : Below w.heap.size W (W.drewN n5) := ⟨rfl, rfl, rfl, Nat.le_refl _, fun _ _ => rfl⟩
      have hb5 : Below w.heap.size w (W.drewN n5) := HI.out.below.trans b5
      have hw5 : Boxed (W.drewN n5) w.heap.size 74 (.pointer (some ⟨B, o, none⟩)) := HI.out.vw
      have hv5 : Boxed (W.drewN n5) (w.heap.size + 1) 110 v := HV.out
      have hr5 : (W.drewN n5).ownsRow w.heap.size 86 3 v pre.length (rows g (pre.map Fin.val)) := by have h := HR.out; unfold Kept at h; rw [List.length_map] at h; exact h
      have hn5 := cell_three_new (W.drewN n5) (.int .u64 ((g x.val).key : Nat)) (.int .u64 ((g x.val).val : Nat)) (.int .u64 ((g x.val).hash : Nat)) 86
      rw [← hz5]
      generalize W.drewN n5 = W5 at k5 b5 hb5 hw5 hv5 hr5 hn5 ⊢
      clear HI HV HR fv fl e1 e2 e3 ql qv q1 q2 q3 hz5 this
      have hc := hv5.cell
      have hz := hb5.size
      gi_wp2_with (gi_at_builtin; refine wpListIn_append_own _ rfl _ _ 110 rfl w.heap.size 86 i0 (.agg #[.int .u64 0, .int .u64 0, .int .u64 0]) 3 24 Tryz.underlying110 hi0 hq0 hq1 hq2 rfl (by decide) _ _ _ rfl (hr5.alloc _) ⟨W5.heap.size, 0, none⟩ 1 1 (ent (g x.val)) rfl rfl hn5 (by simp [ent, Value.oneCell']) (by simp only [maxLen]; omega) (by omega) (by simp; omega) ?_; intro v' w1 hown' hgrow _; obtain ⟨g', cap', rfl⟩ := ownsRow_succ hown'; obtain ⟨hv1, hv2, hr2, hk2, hb2⟩ := hv5.appended (by decide) hr5 hz (by omega) hown' hgrow; have hc1 := hv1.cell; have hf1 := hv1.frozen; have hw1 := ((hw5.alloc _).kept hgrow (hw5.not_row (by decide) hr5)).other (show w.heap.size ≠ w.heap.size + 1 by omega) (.slice (some ⟨g', 0, none⟩) (pre.length + 1) cap'))
      refine ⟨(k5.trans hk2).from _, b5.trans hb2, ⟨⟨_, hv2, ?_, trivial⟩, hw1, hb5.trans hb2⟩⟩
      unfold Kept
      rw [List.map_append, List.length_append, List.length_map]
      simpa [rows_snoc] using hr2
  case done =>
    rintro D ys W hD hys hI hK
    obtain ⟨v, hv, hrow, _⟩ := hI.row
    have hc := hv.cell
    have hbK := belowK_b (w := w) (Nat.le_refl _) W D (.deferred (some [])) (.deferred none) (by omega) hK rfl rfl
    have hrow3 := ownsRow_putObj hrow (.deferred none) hK rfl
    have hys' : ys.map Fin.val = fulls g := by rw [hys, tl_mk]; rfl
    rw [hys'] at hrow3
    have HB := Lib.hid (hI.below.trans hbK)
    have HR := Lib.hid hrow3
    clear hI hrow hrow3 hbK hys hys'
    go_wp2
    refine ⟨by simp, .inl ⟨_, _, rfl, run_takeDeferred hK, ?_⟩⟩
    refine ⟨_, results_tmp rfl _ _ _, ?_⟩
    exact ⟨v, rfl, HR.out, HB.out⟩
  case stop =>
    rintro D c pre W _ _ h _
    exact h.elim
end Go.Proofs.YtplhgcidegngiaaGreatDoor.group
