/- table: Seek. -/
import Derived.Test.YtplhgcidegngiaaDoorTableSeek0
namespace Go.Proofs.YtplhgcidegngiaaDoor.table
open Go.ChangeShapes Go.WideShapes Go.ChangeAt Go.RowKit Go.Shelf swar under trap meter group probe lens tail call
attribute [local go_sem] Oper.semAt_some stage.pureUpon move.stepUpon
set_option linter.unusedSimpArgs false
set_option linter.unusedVariables false
/-- between two rounds -/
def SkI (T B key h : Nat) (t : Tb) (L : Ln) (m : Mt) (w : World) (pre : List (Fin t.n)) (W : World) : Prop :=
  (∀ i ∈ pre, stp t key h i.val = false) ∧ SK T key h t.n L m w w.heap.size pre.length (lastA B (pre.map Fin.val)) (roomA t B (pre.map Fin.val)) ((pre.map Fin.val).any (free t)) W
theorem sk_own (T B key h : Nat) (t : Tb) (L : Ln) (m : Mt) (w : World) (hd : ∀ b ∈ L.d, b < w.heap.size) (D : Nat) (hD : w.heap.size + 9 ≤ D) (k : Nat) (lp rp : Option Addr) (rm : Bool) :
    OwnFrom D (fun (_ : Unit) W => SK T key h t.n L m w w.heap.size k lp rp rm W) := fun s X Y row h hg hr => by
  have hz := h.lt
  exact h.below ((Below.refl (w.heap.size + 9) X).grown hg (by omega) (fun k e => Nat.le_trans hD (hr k e).1)) (Nat.le_refl _) (Nat.le_refl _) hd
/-- the worlds of the region that sets the room: ahead of Free, behind it, behind the store -/
def RoomD (W : World) (p : Addr) (u : Value) : Nat → World → Prop
  | 0 => fun w' => ∃ q, w' = W.drewN q
  | 1 => fun w' => Below W.heap.size W w'
  | _ => fun w' => ∃ w'', Below W.heap.size W w'' ∧ w' = w''.setCell p u
theorem RoomD.cell {W : World} {p a : Addr} {u v : Value} (h : W.cell? a = some v) (hne : p ≠ a) (q : stage.Un (RoomD W p u)) : q.W.cell? a = some v := by
  obtain ⟨i, w', h'⟩ := q
  match i, h' with
  | 0, ⟨q, e⟩ => show w'.cell? a = _; rw [e]; exact h
  | 1, h' => exact keepc h' h
  | i + 2, ⟨w'', hb, e⟩ => show w'.cell? a = _; rw [e, World.cell?_setCell_other _ _ _ _ hne]; exact keepc hb h
theorem SkI_next {T B key h : Nat} {t : Tb} {L : Ln} {m : Mt} {w W : World} {pre : List (Fin t.n)} {x : Fin t.n} {rp : Option Addr} {rm : Bool} (hno : ∀ i ∈ pre, stp t key h i.val = false) (hx : stp t key h x.val = false)
    (S : SK T key h t.n L m w w.heap.size (pre.length + 1) (some ⟨B, x.val * 25, none⟩) rp rm W) (hr : rp = roomA t B (pre.map Fin.val ++ [x.val])) (hm : rm = (pre.map Fin.val ++ [x.val]).any (free t)) : SkI T B key h t L m w (pre ++ [x]) W := by
  refine ⟨fun i hi => ?_, ?_⟩
  · rcases List.mem_append.1 hi with hi | hi
    · exact hno i hi
    · obtain rfl : i = x := by simpa using hi
      exact hx
  · rw [List.map_append, List.length_append, show [x].map Fin.val = [x.val] from rfl, lastA_snoc, ← hr, ← hm]; exact S
theorem SkIx_next {T B key h : Nat} {t : Tb} {L : Ln} {m : Mt} {w W : World} {pre : List (Fin t.n)} {x : Fin t.n} {rp : Option Addr} {rm : Bool} (hno : ∀ i ∈ pre, stp t key h i.val = false) (hx : stp t key h x.val = true)
    (S : SK T key h t.n L m w w.heap.size (pre.length + 1) (some ⟨B, x.val * 25, none⟩) rp rm W) (hr : rp = roomA t B (pre.map Fin.val ++ [x.val])) (hm : rm = (pre.map Fin.val ++ [x.val]).any (free t)) :
    ∃ p y, pre ++ [x] = p ++ [y] ∧ (∀ i ∈ p, stp t key h (Fin.val i) = false) ∧ stp t key h (Fin.val y) = true ∧ SK T key h t.n L m w w.heap.size (pre ++ [x]).length (lastA B ((pre ++ [x]).map Fin.val)) (roomA t B ((pre ++ [x]).map Fin.val)) (((pre ++ [x]).map Fin.val).any (free t)) W := by
  refine ⟨pre, x, rfl, hno, hx, ?_⟩
  rw [List.map_append, List.length_append, show [x].map Fin.val = [x.val] from rfl, lastA_snoc, ← hr, ← hm]; exact S
/-- behind the loop: the spot's cells, and what the return leaves -/
theorem seek_end {T B key h : Nat} {t : Tb} {L : Ln} {m : Mt} {w W : World} {l : List (Fin t.n)} {rm : Bool} (hn : okN t.n) (hsn : sn t key h = l.map Fin.val) (S : SK T key h t.n L m w w.heap.size l.length (lastA B (l.map Fin.val)) (roomA t B (l.map Fin.val)) rm W) (hd : ∀ b ∈ L.d, b < w.heap.size) (D : Nat) (hD : w.heap.size + 9 ≤ D) (hK : W.heap[D]? = some (.deferred (some []))) :
    SK T key h t.n L m w w.heap.size (looks t key h) (some ⟨B, lastG t key h * 25, none⟩) (some ⟨B, roomG t key h * 25, none⟩) rm W := by
  have hne := sn_ne t key h hn
  rw [hsn] at hne
  have e1 : lastA B (l.map Fin.val) = some ⟨B, lastG t key h * 25, none⟩ := by unfold lastA lastG; rw [if_neg hne, hsn]
  have e2 : roomA t B (l.map Fin.val) = some ⟨B, roomG t key h * 25, none⟩ := by unfold roomA roomG; rw [if_neg hne, hsn]
  have e3 : l.length = looks t key h := by unfold looks; rw [hsn, List.length_map]
  rw [← e1, ← e2, ← e3]; exact S
theorem seek_ret {T B key h n lg rg : Nat} {L : Ln} {m : Mt} {w W : World} {k : Nat} {rm : Bool} (S : SK T key h n L m w w.heap.size k (some ⟨B, lg * 25, none⟩) (some ⟨B, rg * 25, none⟩) rm W) (hd : ∀ b ∈ L.d, b < w.heap.size) (D : Nat) (hD : w.heap.size + 9 ≤ D) (hK : W.heap[D]? = some (.deferred (some [])))
    (W' : World) (hW : W' = (((((W.setCell ⟨w.heap.size + 1 + 1 + 1 + 1, 0, none⟩ (.pointer (some ⟨T, 0, none⟩))).setCell ⟨w.heap.size + 1 + 1 + 1 + 1, 1, none⟩ (.int .u64 (key : Nat))).setCell ⟨w.heap.size + 1 + 1 + 1 + 1, 2, none⟩ (.int .u64 (h : Nat))).setCell ⟨w.heap.size + 1 + 1 + 1 + 1, 3, none⟩ (.pointer (some ⟨B, lg * 25, none⟩))).setCell ⟨w.heap.size + 1 + 1 + 1 + 1, 4, none⟩ (.pointer (some ⟨B, rg * 25, none⟩)))) :
    W'.heap[D]? = some (.deferred (some [])) ∧ SBox (w.heap.size + 1 + 1 + 1 + 1) T B key h lg rg (W'.putObj D (.deferred none)) ∧ LnStep [] L (L.see m k) w (W'.putObj D (.deferred none)) := by
  have hs : LnStep [] L (L.see m k) w W' := by
    rw [hW]
    exact ((((S.ln.newset hd (by simp; omega) _).newset hd (by simp; omega) _).newset hd (by simp; omega) _).newset hd (by simp; omega) _).newset hd (by simp; omega) _
  have hb : SBox (w.heap.size + 1 + 1 + 1 + 1) T B key h lg rg W' := by
    rw [hW]
    constructor <;> simp [World.cell?_setCell_same', World.cell?_setCell_other, S.r0, S.r1, S.r2, S.r3, S.r4]
  have hz : W.heap.size = W'.heap.size := by rw [hW]; simp [World.setCell]
  have hD' : W'.heap[D]? = some (.deferred (some [])) := by
    have o : ∀ (X : World) (i : Nat) (v : Value), (X.setCell ⟨w.heap.size + 1 + 1 + 1 + 1, i, none⟩ v).heap[D]? = X.heap[D]? := fun X i v => Below.heap_setCell _ _ _ _ (by show D ≠ w.heap.size + 1 + 1 + 1 + 1; omega)
    rw [hW, o, o, o, o, o]; exact hK
  have k : Below (w.heap.size + 9) W' (W'.putObj D (.deferred none)) := (Below.refl _ W').grown (grownBy_putObj' W' D (.deferred none)) (by have := S.lt; omega) (fun r e => by cases e; exact hD)
  have c : ∀ {i v}, W'.cell? ⟨w.heap.size + 1 + 1 + 1 + 1, i, none⟩ = some v → (W'.putObj D (.deferred none)).cell? ⟨w.heap.size + 1 + 1 + 1 + 1, i, none⟩ = some v := fun hc => (k.cell (by show w.heap.size + 1 + 1 + 1 + 1 < _; omega)).trans hc
  exact ⟨hD', ⟨c hb.c0, c hb.c1, c hb.c2, c hb.c3, c hb.c4⟩, LnStep.belowD hs k (by omega) hd⟩
set_option maxRecDepth 100000 in
set_option maxHeartbeats 4000000 in
theorem seek_any (T B : Nat) (t : Tb) (ht : t.Ok) (key h : Nat) (hk : key < 18446744073709551616) (hh : h < 18446744073709551616) (L : Ln) (m : Mt) (w : World) (hT : TAt T B t w) (hL : LnAt L m w) (hA : Apart T B L) (hX : TabOk w) (hF : Far L.d) :
    Calls Tryd.prog 26 #[.pointer (some ⟨T, 0, none⟩), .agg #[.pointer L.p], .int .u64 key, .int .u64 h] w fun e w' => e = .returned (spotV T B key h (lastG t key h) (roomG t key h)) ∧ LnStep [] L (L.see m (looks t key h)) w w' := by
  have hd := hL.lt
  have hn := okN_le ht.n
  have hn0 := okN_pos ht.n
  refine (callsIn_wide (n := 3)).1 (callsIn_of_wp_marks Tryd.func26 rfl trivial ?_ rfl)
  simp only [Tryd.ntmps26, List.size_toArray, List.length_cons, List.length_nil, Nat.reduceAdd, Nat.reduceSub, Array.replicate_succ, Array.replicate_zero, List.push_toArray, List.append_toArray, List.nil_append, List.cons_append]
  refine wpIn_wide.2 ?_
  go_wp2
  have hS := SK.start T key h t.n L m w hL
  have hB7 := allocs_below (seekObjs T key h t.n L) w
  have hz7 : (allocs w (seekObjs T key h t.n L)).heap.size = w.heap.size + 7 := allocs_size (seekObjs T key h t.n L) w
  have e7 : (((((((w.alloc (.cells #[.pointer (some ⟨T, 0, none⟩)] 29)).alloc (.cells #[.pointer L.p] 44)).alloc (.cells #[.int .u64 (key : Nat)] 39)).alloc (.cells #[.int .u64 (h : Nat)] 39)).alloc (.cells #[.pointer none, .int .u64 0, .int .u64 0, .pointer none, .pointer none] 68)).alloc (.cells #[.pointer (some ⟨T, 0, none⟩), .int .u64 (key : Nat), .int .u64 (h : Nat), .pointer none, .pointer none] 68)).alloc (.cells #[.bool false] 4)) = allocs w (seekObjs T key h t.n L) := rfl
  rw [e7]
  have c0 : (allocs w (seekObjs T key h t.n L)).cell? ⟨w.heap.size, 0, none⟩ = some (.pointer (some ⟨T, 0, none⟩)) := allocs_cell (seekObjs T key h t.n L) w 0 (c := #[.pointer (some ⟨T, 0, none⟩)]) (t := 29) rfl _ rfl 0
  have c3 : (allocs w (seekObjs T key h t.n L)).cell? ⟨w.heap.size + 1 + 1 + 1, 0, none⟩ = some (.int .u64 (h : Nat)) := allocs_cell (seekObjs T key h t.n L) w 3 (c := #[.int .u64 (h : Nat)]) (t := 39) rfl _ rfl 0
  have cr := (hT.below hB7).row
  generalize allocs w (seekObjs T key h t.n L) = W7 at *
  clear e7
  have c1 := fun W => (split.h1_any h W).mono fun e w' (k : _ ∧ W = w') => (⟨k.1, k.2.symm⟩ : _ ∧ w' = W)
  refine wp_region_tail_drew 7 (by kernel_rfl) (by kernel_rfl) ?_
  simp only [List.take_succ_cons, List.take_zero, List.drop_succ_cons, List.drop_zero]
  repeat (quiet_step ((go_at_call 39; exact Calls.quiet_of_same (c1 _))))
  refine wpQuiet_nil ?_
  intro w4 hw4
  obtain ⟨q, rfl⟩ := hw4
  go_wp2_with (go_at_call 38; refine (walk_any _ _ _).mono ?_; rintro e w' ⟨rfl, rfl⟩)
  have hS0 := hS q
  obtain ⟨W0, hW0⟩ : ∃ W0, ((W7.drewN q).alloc (.cells #[.int .u64 ((h / 128 : Nat) : Int)] 39)).alloc (.cells #[.int .i64 (t.n : Nat)] 3) = W0 := ⟨_, rfl⟩
  have hW0' : allocs (W7.drewN q) (walkObjs h t.n) = W0 := hW0
  rw [hW0'] at hS0
  have hz0 : W0.heap.size = w.heap.size + 9 := by rw [← hW0', allocs_size]; show W7.heap.size + 2 = _; omega
  have eb : (W7.drewN q).heap.size = w.heap.size + 1 + 1 + 1 + 1 + 1 + 1 + 1 := by show W7.heap.size = _; omega
  have e128 : ((h : Nat) : Int) / 128 = ((h / 128 : Nat) : Int) := by omega
  rw [e128, hW0]
  clear e128
  clear hW0 hW0' c0 c3 cr c1 hS hB7 hz7 eb
  have hsz : ∀ W, Below W0.heap.size W0 W → True := fun _ _ => trivial
  refine (wpIn_wide (n := 3)).1 ?_
  refine (wpIn_rangeFunc_ownG (F := Fence.wide) (n := 3) rfl (by decide) (gf := 54) (lb := #[.pointer (some ⟨w.heap.size + 1 + 1 + 1 + 1 + 1 + 1 + 1 + 1, 0, none⟩), .pointer (some ⟨w.heap.size + 1 + 1 + 1 + 1 + 1 + 1 + 1, 0, none⟩)]) rfl trivial (enters_of Tryd.func54 (by kernel_rfl) rfl)
    (walk_stopsF 2 (by decide) _ _ (h / 128) t.n ht.n W0 (by omega) (by omega) hS0.wg hS0.wh) keepB_t (keepB_b (by omega) (by omega)) (Below.refl _ _) (fun _ => rfl)
    (SkI T B key h t L m w)
    (fun c pre W => c = .exit 0 ∧ ∃ p x, pre = p ++ [x] ∧ (∀ i ∈ p, stp t key h (Fin.val i) = false) ∧ stp t key h (Fin.val x) = true ∧ SK T key h t.n L m w w.heap.size pre.length (lastA B (pre.map Fin.val)) (roomA t B (pre.map Fin.val)) ((pre.map Fin.val).any (free t)) W)
    ?hI ?hIx ?h0 ?a1 ?assign ?body ?done ?stop)
  case assign =>
    intro l x W K hK
    gi_wp2
    exact hK
  case hI =>
    intro s X Y row hs hg hr
    exact ⟨hs.1, sk_own T B key h t L m w hd _ (by omega) _ _ _ _ () X Y row hs.2 hg hr⟩
  case hIx =>
    intro c s X Y row hs hg hr
    obtain ⟨h1, p, x, h2, h3, h4, h5⟩ := hs
    exact ⟨h1, p, x, h2, h3, h4, sk_own T B key h t L m w hd _ (by omega) _ _ _ _ () X Y row h5 hg hr⟩
  case h0 => exact ⟨by simp, hS0⟩
  case body =>
    rintro l pre x W ⟨hno, hS1⟩ hlen
    have hxn := x.isLt
    have hxi : ((x.val : Nat) : Int) < (t.n : Int) := by omega
    have HNo := Lib.hid hno
    have HS1 := Lib.hid hS1
    have hTW := TAt.past hT hS1.ln.past (by simpa using hA.t) (by simpa using hA.b)
    have k1 := hS1.ct
    have k2 := hS1.cl
    have k3 := hTW.row
    have hLW := hS1.ln.at'
    have hdW : ∀ b ∈ L.d, b < W.heap.size := hLW.lt
    have hlk := Lib.hid (look_any B (x.val * 25) L (L.see m pre.length))
    generalize hm1 : L.see m pre.length = m1 at hlk hLW
    have hAc : ∀ w', LnStep [] L (L.one m1) W w' → ∀ {b k v}, b ∉ L.d → W.cell? ⟨b, k, none⟩ = some v → w'.cell? ⟨b, k, none⟩ = some v := fun w' hs b k v hb c => hs.past.cell c (by simpa using hb)
    have q1 := CallD.cell (A := LnStep [] L (L.one m1) W) k1 (fun w' hs => hAc w' hs (hL.nd (by omega)) k1)
    have q2 := CallD.cell (A := LnStep [] L (L.one m1) W) k2 (fun w' hs => hAc w' hs (hL.nd (by omega)) k2)
    have q3 := CallD.cell (A := LnStep [] L (L.one m1) W) k3 (fun w' hs => hAc w' hs hA.t k3)
    haveI : Nonempty (stage.Un (CallD W (LnStep [] L (L.one m1) W))) := ⟨⟨0, W, 0, rfl⟩⟩
    clear hno hS1 hTW k1 k2 k3 hAc
    gi_wp2
    refine move.region (D := CallD W (LnStep [] L (L.one m1) W)) 9 [false, false, false, false, false, false, false, true, false] (by kernel_rfl) (by kernel_rfl) (by kernel_rfl) ⟨1, rfl⟩ ?_
    simp only [List.take_succ_cons, List.take_zero, List.drop_succ_cons, List.drop_zero]
    iterate 7
      refine move.pure_step (fun _ _ _ => trivial) (fun K hK => ?_)
      go_simp
      refine hK _ ?_
      clear hK K
    refine move.move_step (v := .agg #[.pointer (some ⟨B, x.val * 25, none⟩)]) (fun _ _ _ => trivial) (by kernel_rfl) (fun wd hd => ?_) (fun K hK => ?_)
    · obtain ⟨q, rfl⟩ := hd
      go_simp
      refine (CallsIn.inRound _ (callsIn_wide.2 (hlk.out _ (hLW.below (below_drewN' W q))))).mono ?_
      rintro e' w' ⟨rfl, hs⟩
      exact ⟨rfl, (LnStep.of [] hLW (below_drewN' W q)).trans hs⟩
    refine hK _ ?_
    clear hK K
    refine move.pure_step (fun _ _ _ => trivial) (fun K hK => ?_)
    go_simp
    refine hK _ ?_
    clear hK K
    refine move.nil_step ?_
    intro w5 hs5
    have hs5' : LnStep [] L (L.one m1) W w5 := hs5
    have hS2 := HS1.out.look (Nat.le_refl _) hd (by rw [hm1]; exact hs5')
    have hp5 : Past (L.d ++ [w.heap.size + 1 + 1 + 1 + 1 + 1, w.heap.size + 1 + 1 + 1 + 1 + 1 + 1]) W w5 := hs5'.past.mono fun k hk => by simpa using .inl hk
    clear q1 q2 q3 this hs5 hs5' hLW hlk hm1 m1
    have k3 := hS2.s3
    have kf := hS2.sf 3
    cases hany : (pre.map Fin.val).any (free t)
    · have S := hS2.setLast (Nat.le_refl _) hd (some ⟨B, x.val * 25, none⟩)
      have P := hp5.store (p := ⟨w.heap.size + 1 + 1 + 1 + 1 + 1, 3, none⟩) (.inl (by simp)) (.pointer (some ⟨B, x.val * 25, none⟩))
      have kr := hS2.rm
      rw [hany] at kr S
      gi_wp2
      generalize w5.setCell ⟨w.heap.size + 1 + 1 + 1 + 1 + 1, 3, none⟩ (.pointer (some ⟨B, x.val * 25, none⟩)) = w6 at S P ⊢
      clear hS2 hp5 k3 kf kr
      have hrp := Lib.hid ((roomA_no hany B x.val).symm : some (⟨B, x.val * 25, none⟩ : Addr) = roomA t B (pre.map Fin.val ++ [x.val]))
      have hrm0 : decide (0 ≤ least (t.gs x.val)) = (pre.map Fin.val ++ [x.val]).any (free t) := by rw [List.any_append, hany]; simp [free]
      have hGx := (TAt.past hT S.ln.past (by simpa using hA.t) (by simpa using hA.b)).gs x.val x.isLt
      have hXx := tab_past hX S.ln.past (by simpa using hF)
      have cR := fun W' (hb : Below w6.heap.size w6 W') => free_any B (x.val * 25) (t.gs x.val) (ht.gs _) W' (hGx.below hb) (hXx.below hb hXx.lt)
      generalize least (t.gs x.val) = lv at cR hrm0
      have hrm := Lib.hid hrm0
      clear hrm0
      have q1 := RoomD.cell (p := ⟨w.heap.size + 1 + 1 + 1 + 1 + 1, 4, none⟩) (u := .pointer (some ⟨B, x.val * 25, none⟩)) S.s3 (off_ne (by decide))
      have HS := Lib.hid S
      haveI : Nonempty (stage.Un (RoomD w6 ⟨w.heap.size + 1 + 1 + 1 + 1 + 1, 4, none⟩ (.pointer (some ⟨B, x.val * 25, none⟩)))) := ⟨⟨0, w6, 0, rfl⟩⟩
      clear S hGx hXx
      refine move.region (D := RoomD w6 ⟨w.heap.size + 1 + 1 + 1 + 1 + 1, 4, none⟩ (.pointer (some ⟨B, x.val * 25, none⟩))) 8 [false, false, false, false, true, false, false, true] (by kernel_rfl) (by kernel_rfl) (by kernel_rfl) ⟨1, rfl⟩ ?_
      simp only [List.take_succ_cons, List.take_zero, List.drop_succ_cons, List.drop_zero]
      iterate 4
        refine move.pure_step (fun _ _ _ => trivial) (fun K hK => ?_)
        go_simp
        refine hK _ ?_
        clear hK K
      refine move.move_step (v := .int .i64 lv) (fun _ _ _ => trivial) (by kernel_rfl) (fun wd hd => ?_) (fun K hK => ?_)
      · obtain ⟨q, rfl⟩ := hd
        go_simp
        refine (CallsIn.inRound _ (callsIn_wide.2 (cR _ (below_drewN' w6 q)))).mono ?_
        rintro e' w' ⟨rfl, hs⟩
        exact ⟨rfl, under.below_step (below_drewN' w6 q) hs⟩
      refine hK _ ?_
      clear hK K
      iterate 2
        refine move.pure_step (fun _ _ _ => trivial) (fun K hK => ?_)
        go_simp
        refine hK _ ?_
        clear hK K
      refine move.move_step (v := undef) (fun _ _ _ => trivial) (by kernel_rfl) (fun wd hd9 => ?_) (fun K hK => ?_)
      · have hb9 : Below w6.heap.size w6 wd := hd9
        have S9 := HS.out.below hb9 (Nat.le_refl _) HS.out.lt hd
        have k4 := S9.s4
        have kf := S9.sf 4
        clear S9 hd9
        go_simp
        exact ⟨wd, hb9, rfl⟩
      refine hK _ ?_
      clear hK K
      refine move.nil_step ?_
      rintro w10 ⟨w9, hb9, rfl⟩
      have S9 := HS.out.below hb9 (Nat.le_refl _) HS.out.lt hd
      have P9 := (P.trans (Past.of hb9)).store (p := ⟨w.heap.size + 1 + 1 + 1 + 1 + 1, 4, none⟩) (.inl (by simp)) (.pointer (some ⟨B, x.val * 25, none⟩))
      replace P := P9.store (p := ⟨w.heap.size + 1 + 1 + 1 + 1 + 1 + 1, 0, none⟩) (.inl (by simp)) (.bool (decide (0 ≤ lv)))
      have S10 := S9.setRoom (Nat.le_refl _) hd (some ⟨B, x.val * 25, none⟩)
      have S := S10.setRm (Nat.le_refl _) hd (decide (0 ≤ lv))
      have kr := S10.rm
      have krf := S10.rmf
      have k3 := S10.s3
      clear q1 this cR HS
      generalize w9.setCell ⟨w.heap.size + 1 + 1 + 1 + 1 + 1, 4, none⟩ (.pointer (some ⟨B, x.val * 25, none⟩)) = w11 at S P S10 P9 kr krf k3 ⊢
      gi_wp2_with (fail)
      generalize w11.setCell ⟨w.heap.size + 1 + 1 + 1 + 1 + 1 + 1, 0, none⟩ (.bool (decide (0 ≤ lv))) = w7 at S P ⊢
      clear S9 P9 hb9 kr krf k3 S10 w11 w9 w6
      generalize w7 = w6 at S P ⊢
      have hGx := (TAt.past hT S.ln.past (by simpa using hA.t) (by simpa using hA.b)).gs x.val x.isLt
      have hXx := tab_past hX S.ln.past (by simpa using hF)
      have cO := open_any B (x.val * 25) (t.gs x.val) (ht.gs _) w6 hGx
      have z3 := S.s3
      have HS := Lib.hid S
      have HP := Lib.hid P
      clear S P
      cases ho : opens (t.gs x.val)
      · rw [ho] at cO
        have cF := fun W' (hb : Below w6.heap.size w6 W') => find_any B (x.val * 25) (t.gs x.val) key h hh (ht.gs _) W' (hGx.below hb) (hXx.below hb hXx.lt)
        have HO := Lib.hid ho
        clear ho
        obtain ⟨fv, hfv⟩ : ∃ fv, find key h (t.gs x.val) = fv := ⟨_, rfl⟩
        rw [hfv] at cF
        have HF := Lib.hid hfv
        clear hfv
        by_cases hge : 0 ≤ fv
        · have hst : stp t key h x.val = true := by unfold stp; rw [HF.out, decide_eq_true hge]; simp
          have HST := Lib.hid hst
          have dge : decide (0 ≤ fv) = true := decide_eq_true hge
          clear hst hge
          gi_wp2_with (first
            | (refine ⟨trivial, ?_⟩; gi_at_call 41; refine (CallsIn.inRound _ (callsIn_wide.2 cO)).mono ?_; rintro e w7 ⟨rfl, hb7⟩; have S7 := HS.out.below hb7 (Nat.le_refl _) HS.out.lt hd; have y3 := S7.s3; have y1 := S7.ck; have y2 := S7.ch)
            | (refine ⟨trivial, ?_⟩; gi_at_call 42; refine (CallsIn.inRound _ (callsIn_wide.2 (cF _ hb7))).mono ?_; rintro e w8 ⟨rfl, hb8⟩; have S8 := S7.below hb8 (Nat.le_refl _) S7.lt hd))
          have P8 : Past (L.d ++ [w.heap.size + 1 + 1 + 1 + 1 + 1, w.heap.size + 1 + 1 + 1 + 1 + 1 + 1]) W w8 := (HP.out.trans (Past.of hb7)).trans (Past.of hb8)
          have K8 := keeps_from P8 (B := w.heap.size + 9) (by intro b hb; rw [List.mem_append] at hb; rcases hb with hb | hb; have := hd b hb; omega; rcases List.mem_cons.1 hb with rfl | hb; omega; rcases List.mem_cons.1 hb with rfl | hb; omega; cases hb)
          exact ⟨by rw [hz0]; exact K8, rfl, SkIx_next HNo.out HST.out S8 hrp.out hrm.out⟩
        · have hst : stp t key h x.val = false := by unfold stp; rw [HO.out, HF.out, decide_eq_false hge]; rfl
          have HST := Lib.hid hst
          have dge : decide (0 ≤ fv) = false := decide_eq_false hge
          clear hst hge
          gi_wp2_with (first
            | (refine ⟨trivial, ?_⟩; gi_at_call 41; refine (CallsIn.inRound _ (callsIn_wide.2 cO)).mono ?_; rintro e w7 ⟨rfl, hb7⟩; have S7 := HS.out.below hb7 (Nat.le_refl _) HS.out.lt hd; have y3 := S7.s3; have y1 := S7.ck; have y2 := S7.ch)
            | (refine ⟨trivial, ?_⟩; gi_at_call 42; refine (CallsIn.inRound _ (callsIn_wide.2 (cF _ hb7))).mono ?_; rintro e w8 ⟨rfl, hb8⟩; have S8 := S7.below hb8 (Nat.le_refl _) S7.lt hd))
          have P8 : Past (L.d ++ [w.heap.size + 1 + 1 + 1 + 1 + 1, w.heap.size + 1 + 1 + 1 + 1 + 1 + 1]) W w8 := (HP.out.trans (Past.of hb7)).trans (Past.of hb8)
          have K8 := keeps_from P8 (B := w.heap.size + 9) (by intro b hb; rw [List.mem_append] at hb; rcases hb with hb | hb; have := hd b hb; omega; rcases List.mem_cons.1 hb with rfl | hb; omega; rcases List.mem_cons.1 hb with rfl | hb; omega; cases hb)
          exact ⟨by rw [hz0]; exact K8, HS1.out.keepB S8, SkI_next HNo.out HST.out S8 hrp.out hrm.out⟩
      · rw [ho] at cO
        have HO := Lib.hid ho
        clear ho
        gi_wp2_with (refine ⟨trivial, ?_⟩; gi_at_call 41; refine (CallsIn.inRound _ (callsIn_wide.2 cO)).mono ?_; rintro e w7 ⟨rfl, hb7⟩; have S7 := HS.out.below hb7 (Nat.le_refl _) HS.out.lt hd)
        refine ⟨trivial, ?_⟩
        gi_wp2
        have P7 : Past (L.d ++ [w.heap.size + 1 + 1 + 1 + 1 + 1, w.heap.size + 1 + 1 + 1 + 1 + 1 + 1]) W w7 := HP.out.trans (Past.of hb7)
        have K7 := keeps_from P7 (B := w.heap.size + 9) (by intro b hb; rw [List.mem_append] at hb; rcases hb with hb | hb; have := hd b hb; omega; rcases List.mem_cons.1 hb with rfl | hb; omega; rcases List.mem_cons.1 hb with rfl | hb; omega; cases hb)
        have hst : stp t key h x.val = true := by unfold stp; rw [HO.out]; rfl
        exact ⟨by rw [hz0]; exact K7, rfl, SkIx_next HNo.out hst S7 hrp.out hrm.out⟩
    · have S := hS2.setLast (Nat.le_refl _) hd (some ⟨B, x.val * 25, none⟩)
      have P := hp5.store (p := ⟨w.heap.size + 1 + 1 + 1 + 1 + 1, 3, none⟩) (.inl (by simp)) (.pointer (some ⟨B, x.val * 25, none⟩))
      have kr := hS2.rm
      rw [hany] at kr S
      gi_wp2_with (fail)
      have hrp := Lib.hid ((roomA_yes hany B x.val).symm : roomA t B (pre.map Fin.val) = roomA t B (pre.map Fin.val ++ [x.val]))
      have hrm : Hid (true = (pre.map Fin.val ++ [x.val]).any (free t)) := Lib.hid (by rw [List.any_append, hany]; rfl)
      generalize w5.setCell ⟨w.heap.size + 1 + 1 + 1 + 1 + 1, 3, none⟩ (.pointer (some ⟨B, x.val * 25, none⟩)) = w6 at S P ⊢
      clear hS2 hp5 k3 kf kr
      have hGx := (TAt.past hT S.ln.past (by simpa using hA.t) (by simpa using hA.b)).gs x.val x.isLt
      have hXx := tab_past hX S.ln.past (by simpa using hF)
      have cO := open_any B (x.val * 25) (t.gs x.val) (ht.gs _) w6 hGx
      have z3 := S.s3
      have HS := Lib.hid S
      have HP := Lib.hid P
      clear S P
      cases ho : opens (t.gs x.val)
      · rw [ho] at cO
        have cF := fun W' (hb : Below w6.heap.size w6 W') => find_any B (x.val * 25) (t.gs x.val) key h hh (ht.gs _) W' (hGx.below hb) (hXx.below hb hXx.lt)
        have HO := Lib.hid ho
        clear ho
        obtain ⟨fv, hfv⟩ : ∃ fv, find key h (t.gs x.val) = fv := ⟨_, rfl⟩
        rw [hfv] at cF
        have HF := Lib.hid hfv
        clear hfv
        by_cases hge : 0 ≤ fv
        · have hst : stp t key h x.val = true := by unfold stp; rw [HF.out, decide_eq_true hge]; simp
          have HST := Lib.hid hst
          have dge : decide (0 ≤ fv) = true := decide_eq_true hge
          clear hst hge
          gi_wp2_with (first
            | (refine ⟨trivial, ?_⟩; gi_at_call 41; refine (CallsIn.inRound _ (callsIn_wide.2 cO)).mono ?_; rintro e w7 ⟨rfl, hb7⟩; have S7 := HS.out.below hb7 (Nat.le_refl _) HS.out.lt hd; have y3 := S7.s3; have y1 := S7.ck; have y2 := S7.ch)
            | (refine ⟨trivial, ?_⟩; gi_at_call 42; refine (CallsIn.inRound _ (callsIn_wide.2 (cF _ hb7))).mono ?_; rintro e w8 ⟨rfl, hb8⟩; have S8 := S7.below hb8 (Nat.le_refl _) S7.lt hd))
          have P8 : Past (L.d ++ [w.heap.size + 1 + 1 + 1 + 1 + 1, w.heap.size + 1 + 1 + 1 + 1 + 1 + 1]) W w8 := (HP.out.trans (Past.of hb7)).trans (Past.of hb8)
          have K8 := keeps_from P8 (B := w.heap.size + 9) (by intro b hb; rw [List.mem_append] at hb; rcases hb with hb | hb; have := hd b hb; omega; rcases List.mem_cons.1 hb with rfl | hb; omega; rcases List.mem_cons.1 hb with rfl | hb; omega; cases hb)
          exact ⟨by rw [hz0]; exact K8, rfl, SkIx_next HNo.out HST.out S8 hrp.out hrm.out⟩
        · have hst : stp t key h x.val = false := by unfold stp; rw [HO.out, HF.out, decide_eq_false hge]; rfl
          have HST := Lib.hid hst
          have dge : decide (0 ≤ fv) = false := decide_eq_false hge
          clear hst hge
          gi_wp2_with (first
            | (refine ⟨trivial, ?_⟩; gi_at_call 41; refine (CallsIn.inRound _ (callsIn_wide.2 cO)).mono ?_; rintro e w7 ⟨rfl, hb7⟩; have S7 := HS.out.below hb7 (Nat.le_refl _) HS.out.lt hd; have y3 := S7.s3; have y1 := S7.ck; have y2 := S7.ch)
            | (refine ⟨trivial, ?_⟩; gi_at_call 42; refine (CallsIn.inRound _ (callsIn_wide.2 (cF _ hb7))).mono ?_; rintro e w8 ⟨rfl, hb8⟩; have S8 := S7.below hb8 (Nat.le_refl _) S7.lt hd))
          have P8 : Past (L.d ++ [w.heap.size + 1 + 1 + 1 + 1 + 1, w.heap.size + 1 + 1 + 1 + 1 + 1 + 1]) W w8 := (HP.out.trans (Past.of hb7)).trans (Past.of hb8)
          have K8 := keeps_from P8 (B := w.heap.size + 9) (by intro b hb; rw [List.mem_append] at hb; rcases hb with hb | hb; have := hd b hb; omega; rcases List.mem_cons.1 hb with rfl | hb; omega; rcases List.mem_cons.1 hb with rfl | hb; omega; cases hb)
          exact ⟨by rw [hz0]; exact K8, HS1.out.keepB S8, SkI_next HNo.out HST.out S8 hrp.out hrm.out⟩
      · rw [ho] at cO
        have HO := Lib.hid ho
        clear ho
        gi_wp2_with (refine ⟨trivial, ?_⟩; gi_at_call 41; refine (CallsIn.inRound _ (callsIn_wide.2 cO)).mono ?_; rintro e w7 ⟨rfl, hb7⟩; have S7 := HS.out.below hb7 (Nat.le_refl _) HS.out.lt hd)
        refine ⟨trivial, ?_⟩
        gi_wp2
        have P7 : Past (L.d ++ [w.heap.size + 1 + 1 + 1 + 1 + 1, w.heap.size + 1 + 1 + 1 + 1 + 1 + 1]) W w7 := HP.out.trans (Past.of hb7)
        have K7 := keeps_from P7 (B := w.heap.size + 9) (by intro b hb; rw [List.mem_append] at hb; rcases hb with hb | hb; have := hd b hb; omega; rcases List.mem_cons.1 hb with rfl | hb; omega; rcases List.mem_cons.1 hb with rfl | hb; omega; cases hb)
        have hst : stp t key h x.val = true := by unfold stp; rw [HO.out]; rfl
        exact ⟨by rw [hz0]; exact K7, rfl, SkIx_next HNo.out hst S7 hrp.out hrm.out⟩
  case done =>
    rintro D ys W hD hys ⟨hno, hS1⟩ hK
    have hsn : sn t key h = ys.map Fin.val := by
      unfold sn path
      rw [← hys]
      refine seen_all fun i hi => ?_
      obtain ⟨j, hj, rfl⟩ := List.mem_map.1 hi
      exact hno j hj
    have HE := Lib.hid (seek_end ht.n hsn hS1 hd D (by omega) hK)
    clear hno hS1 hsn hys
    have k0 := HE.out.s0
    have k1 := HE.out.s1
    have k2 := HE.out.s2
    have k3 := HE.out.s3
    have k4 := HE.out.s4
    have r0 := HE.out.r0
    have r1 := HE.out.r1
    have r2 := HE.out.r2
    have r3 := HE.out.r3
    have r4 := HE.out.r4
    have rf := HE.out.rf
    go_wp2
    obtain ⟨e1, e2, e3⟩ := seek_ret HE.out hd D (by omega) hK _ rfl
    refine ⟨by simp, .inl ⟨_, _, rfl, run_takeDeferred e1, ?_⟩⟩
    refine ⟨spotV T B key h (lastG t key h) (roomG t key h), ?_, rfl, e3⟩
    simp [results, Tryd.f26, go_sem, e2.c0, e2.c1, e2.c2, e2.c3, e2.c4]
  case stop =>
    rintro D c pre W hD hpre ⟨rfl, p, x, rfl, hno, hx, hS1⟩ hK
    have hsn : sn t key h = (p ++ [x]).map Fin.val := by
      rw [List.map_append] at hpre ⊢
      refine seen_at hx hpre fun i hi => ?_
      obtain ⟨j, hj, rfl⟩ := List.mem_map.1 hi
      exact hno j hj
    have HE := Lib.hid (seek_end ht.n hsn hS1 hd D (by omega) hK)
    clear hno hS1 hsn hpre hx
    refine wpIn_wide.2 ?_
    have k0 := HE.out.s0
    have k1 := HE.out.s1
    have k2 := HE.out.s2
    have k3 := HE.out.s3
    have k4 := HE.out.s4
    have r0 := HE.out.r0
    have r1 := HE.out.r1
    have r2 := HE.out.r2
    have r3 := HE.out.r3
    have r4 := HE.out.r4
    have rf := HE.out.rf
    go_wp2
    obtain ⟨e1, e2, e3⟩ := seek_ret HE.out hd D (by omega) hK _ rfl
    refine ⟨by simp, .inl ⟨_, _, rfl, run_takeDeferred e1, ?_⟩⟩
    refine ⟨spotV T B key h (lastG t key h) (roomG t key h), ?_, rfl, e3⟩
    simp [results, Tryd.f26, go_sem, e2.c0, e2.c1, e2.c2, e2.c3, e2.c4]
end Go.Proofs.YtplhgcidegngiaaDoor.table
