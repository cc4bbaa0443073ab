/- evac: some tables, without the document's; their calls, by a meter's visits and by none. -/
import Derived.Test.YtibcokiijlamcaaGreatDoorEvacMath
import Derived.Test.YtibcokiijlamcaaGreatDoorSoundA
import Derived.Test.YtibcokiijlamcaaGreatDoorTableNil
namespace Go.Proofs.YtibcokiijlamcaaGreatDoor.evac
open Go.ChangeShapes Go.WideShapes Go.ChangeAt Go.RowKit Go.Shelf swar under trap meter group probe lens tail call table
set_option linter.unusedSimpArgs false
set_option linter.unusedVariables false

/-- so many visits more, one by one -/
def msee (m : Mt) (k : Nat) : Mt := (Ln.vi 0 0).see m k
theorem see_vi (B o : Nat) (m : Mt) : ∀ k, (Ln.vi B o).see m k = msee m k
  | 0 => rfl
  | k + 1 => by
    show (Ln.vi B o).one ((Ln.vi B o).see m k) = (Ln.vi 0 0).one ((Ln.vi 0 0).see m k)
    rw [see_vi B o m k]; rfl
theorem msee_add (m : Mt) (j k : Nat) : msee m (j + k) = msee (msee m j) k := Ln.see_add _ m j k
theorem msee_one (m : Mt) : msee m 1 = m.visits 1 := rfl
/-- how many groups the moves of a list look at -/
def lkc (N d : Nat) : (Nat → Tb) → List Sl → Nat
  | _, [] => 0
  | u, e :: l => looks (u (tgt N d e.hash)) e.key e.hash + lkc N d (mv1 N d u e) l
theorem lkc_snoc (N d : Nat) : ∀ (l : List Sl) (u : Nat → Tb) (e : Sl), lkc N d u (l ++ [e]) = lkc N d u l + looks (mvs N d u l (tgt N d e.hash)) e.key e.hash
  | [], u, e => by simp [lkc, mvs]
  | x :: l, u, e => by
    have := lkc_snoc N d l (mv1 N d u x) e
    simp only [List.cons_append, lkc, mvs, this, Nat.add_assoc]
theorem list_past {b : Nat} {o : Option Addr} {l : List Sl} {W W' : World} {d : List Nat} (h : ListAt b o l W) (hp : Past d W W') (hd : ∀ x ∈ d, x < b) : ListAt b o l W' := sound.list_kp h (sound.KpD.of hp) hd
/-- what is taken out of the old table stays aside of what the targets do -/
theorem up_comm {α : Type} (t : Nat → α) {i j : Nat} (h : i ≠ j) (x y : α) : up (up t i x) j y = up (up t j y) i x := by
  funext k; unfold up
  by_cases e1 : k = j
  · subst e1; rw [if_pos rfl, if_neg (Ne.symm h), if_pos rfl]
  · rw [if_neg e1]; split
    · rfl
    · rfl
theorem mv1_zero (N d : Nat) (u : Nat → Tb) (e : Sl) : mv1 N d u e 0 = u 0 := by
  have h := tgt_pos N d e.hash
  unfold mv1; rw [up_ne]; omega
theorem mv1_tak (N d : Nat) (u : Nat → Tb) (i : Nat) (e : Sl) : mv1 N d (tak u i) e = tak (mv1 N d u e) i := by
  have h := tgt_pos N d e.hash
  have e1 : 0 ≠ tgt N d e.hash := by omega
  have e2 : tak (mv1 N d u e) i = up (mv1 N d u e) 0 (tk (u 0) i 8) := by unfold tak; rw [mv1_zero]
  rw [e2]
  unfold mv1 tak
  rw [up_ne _ _ (Ne.symm e1), up_comm _ e1]
theorem mvs_zero (N d : Nat) : ∀ (l : List Sl) (u : Nat → Tb), mvs N d u l 0 = u 0
  | [], _ => rfl
  | e :: l, u => (mvs_zero N d l (mv1 N d u e)).trans (mv1_zero N d u e)
theorem tak_at (N d : Nat) (u : Nat → Tb) (i : Nat) (h : Nat) : tak u i (tgt N d h) = u (tgt N d h) := by
  have := tgt_pos N d h
  unfold tak; rw [up_ne]; omega
theorem mvs_tak (N d : Nat) (i : Nat) : ∀ (l : List Sl) (u : Nat → Tb), mvs N d (tak u i) l = tak (mvs N d u l) i
  | [], _ => rfl
  | e :: l, u => by
    show mvs N d (mv1 N d (tak u i) e) l = _
    rw [mv1_tak]; exact mvs_tak N d i l (mv1 N d u e)
theorem good1_tak (N d : Nat) (i : Nat) (u : Nat → Tb) (e : Sl) : good1 N d (tak u i) e = good1 N d u e := by
  unfold good1; rw [tak_at]
theorem goods_tak (N d : Nat) (i : Nat) : ∀ (l : List Sl) (u : Nat → Tb), goods N d (tak u i) l = goods N d u l
  | [], _ => rfl
  | e :: l, u => by
    show (good1 N d (tak u i) e && goods N d (mv1 N d (tak u i) e) l) = _
    rw [mv1_tak, good1_tak, goods_tak N d i l (mv1 N d u e)]; rfl
theorem lkc_tak (N d : Nat) (i : Nat) : ∀ (l : List Sl) (u : Nat → Tb), lkc N d (tak u i) l = lkc N d u l
  | [], _ => rfl
  | e :: l, u => by
    show looks (tak u i (tgt N d e.hash)) e.key e.hash + lkc N d (mv1 N d (tak u i) e) l = _
    rw [mv1_tak, tak_at, lkc_tak N d i l (mv1 N d u e)]; rfl

theorem kept_cap {base : Nat} {W : World} {v : Value} {g : Gp} {l : List Nat} (h : group.Kept base W v g l) : ∃ o c, v = .slice o l.length c ∧ l.length ≤ c ∧ ListAt base o (l.map g) W := by
  obtain ⟨o, c, e, hl⟩ := Kept.list h
  rcases h.2 with ⟨h2, hn⟩ | ⟨B, c', cur, h2, hbase, hB, hn, _⟩
  · exact ⟨o, c, e, by omega, hl⟩
  · rw [e] at h2
    injection h2 with _ _ h3
    exact ⟨o, c, e, by omega, hl⟩
theorem Ot.pair {Y : Lay} {x i : Nat} (h : x ∉ Y.tall) (hi : i < Y.N) : x ≠ Y.T i ∧ x ≠ Y.B i :=
  ⟨fun e => h (Lay.tin hi (by simp [e])), fun e => h (Lay.tin hi (by simp [e]))⟩
/-- the tables hold t; all of it is new since w0 -/
structure Real (a : String → Addr) (w0 : World) (Y : Lay) (t : Nat → Tb) (W : World) : Prop where
  at' : ∀ i, i < Y.N → TAt (Y.T i) (Y.B i) (t i) W
  ok : ∀ i, i < Y.N → (t i).Ok
  tn : ∀ i, i < Y.N → (t i).n = Y.n i
  sep : ∀ i j, i < Y.N → j < Y.N → i ≠ j → ∀ b ∈ [Y.T i, Y.B i], b ∉ [Y.T j, Y.B j]
  new : ∀ b ∈ Y.tall, w0.heap.size ≤ b
  bel : Below w0.heap.size w0 W
  base : Bq a w0
section
variable {a : String → Addr} {w0 : World} {Y : Lay} {t : Nat → Tb} {W W' : World}
theorem Real.read (h : Real a w0 Y t W) (hb : Below W.heap.size W W') : Real a w0 Y t W' :=
  ⟨fun i hi => (h.at' i hi).below hb, h.ok, h.tn, h.sep, h.new, under.below_step h.bel hb, h.base⟩
theorem Real.past {d : List Nat} (h : Real a w0 Y t W) (hp : Past d W W') (hd : ∀ b ∈ d, w0.heap.size ≤ b ∧ b ∉ Y.tall) : Real a w0 Y t W' :=
  ⟨fun i hi => (h.at' i hi).past hp (fun e => (hd _ e).2 (Lay.tin hi (by simp))) (fun e => (hd _ e).2 (Lay.tin hi (by simp))), h.ok, h.tn, h.sep, h.new, h.bel.trans (hp.below h.bel.size fun b hb => (hd b hb).1), h.base⟩
theorem Real.step {d : List Nat} {t' : Tb} (h : Real a w0 Y t W) {i : Nat} (hi : i < Y.N) (hp : Past ([Y.T i, Y.B i] ++ d) W W') (hT : TAt (Y.T i) (Y.B i) t' W') (ok : t'.Ok) (hn : t'.n = Y.n i) (hd : ∀ b ∈ d, w0.heap.size ≤ b ∧ b ∉ Y.tall) : Real a w0 Y (up t i t') W' := by
  have ho : ∀ j, j < Y.N → j ≠ i → ∀ b ∈ [Y.T j, Y.B j], b ∉ [Y.T i, Y.B i] ++ d := fun j hj hne b hb e => by
    rcases List.mem_append.1 e with e | e
    · exact h.sep j i hj hi hne b hb e
    · exact (hd b e).2 (Lay.tin hj hb)
  refine ⟨fun j hj => ?_, fun j hj => ?_, fun j hj => ?_, h.sep, h.new, h.bel.trans (hp.below h.bel.size fun b hb => ?_), h.base⟩
  · by_cases e : j = i
    · subst e; rw [up_same]; exact hT
    · rw [up_ne _ _ e]; exact (h.at' j hj).past hp (ho j hj e _ (by simp)) (ho j hj e _ (by simp))
  · by_cases e : j = i
    · subst e; rw [up_same]; exact ok
    · rw [up_ne _ _ e]; exact h.ok j hj
  · by_cases e : j = i
    · subst e; rw [up_same]; exact hn
    · rw [up_ne _ _ e]; exact h.tn j hj
  · rcases List.mem_append.1 hb with hb | hb
    · exact h.new b (Lay.tin hi hb)
    · exact (hd b hb).1
theorem Real.lt (h : Real a w0 Y t W) : ∀ b ∈ Y.tall, b < W.heap.size := fun b hb => by
  obtain ⟨i, hi, hb⟩ := List.mem_flatMap.1 hb
  have hi := List.mem_range.1 hi
  rcases List.mem_cons.1 hb with rfl | hb
  · exact (h.at' i hi).lt
  · obtain rfl : b = Y.B i := by simpa using hb
    exact (h.at' i hi).lb
theorem Real.rd (h : Real a w0 Y t W) {i : Nat} (hi : i < Y.N) : Ready a (Y.T i) (Y.B i) (t i) .nil Mt.zero W :=
  ⟨h.at' i hi, h.ok i hi, trivial, Apart.nil _ _, h.base.bits.below h.bel h.base.bits.lt, (fun b hb => by cases hb), Nat.le_trans h.base.far (h.new _ (Lay.tin hi (by simp))), Nat.le_trans h.base.far (h.new _ (Lay.tin hi (by simp))), h.base.six.below h.bel⟩
theorem Real.rdv (h : Real a w0 Y t W) {i : Nat} (hi : i < Y.N) {Bm : Nat} {m : Mt} (hm : MAt Bm 0 m W) (hb : w0.heap.size ≤ Bm) (ho : Bm ∉ Y.tall) : Ready a (Y.T i) (Y.B i) (t i) (.vi Bm 0) m W :=
  ⟨h.at' i hi, h.ok i hi, hm, (fun b hb' => by
    obtain rfl : b = Bm := by simpa [Ln.d] using hb'
    exact Ot.pair ho hi), h.base.bits.below h.bel h.base.bits.lt, (fun b hb' => by
    obtain rfl : b = Bm := by simpa [Ln.d] using hb'
    exact Nat.le_trans h.base.far hb), Nat.le_trans h.base.far (h.new _ (Lay.tin hi (by simp))), Nat.le_trans h.base.far (h.new _ (Lay.tin hi (by simp))), h.base.six.below h.bel⟩
theorem Real.tl (h : Real a w0 Y t W) {i : Nat} (hi : i < Y.N) {Bm : Nat} (hb : w0.heap.size ≤ Bm) (ho : Bm ∉ Y.tall) {t' : Tb} {m' : Mt} (hs : TL (Y.T i) (Y.B i) t' (.vi Bm 0) m' W W') (ok : t'.Ok) (hn : t'.n = (t i).n) : Real a w0 Y (up t i t') W' ∧ MAt Bm 0 m' W' ∧ Past (Bm :: Y.tall) W W' := by
  refine ⟨h.step hi hs.ln.past hs.at' ok (hn.trans (h.tn i hi)) (fun b hb' => by
    obtain rfl : b = Bm := by simpa [Ln.d] using hb'
    exact ⟨hb, ho⟩), hs.ln.at', hs.ln.past.mono fun b hb' => ?_⟩
  rcases List.mem_append.1 hb' with hb' | hb'
  · exact List.mem_cons_of_mem _ (Lay.tin hi hb')
  · obtain rfl : b = Bm := by simpa [Ln.d] using hb'
    exact List.mem_cons_self
theorem Real.look (h : Real a w0 Y t W) {i : Nat} (hi : i < Y.N) {Bm : Nat} (hb : w0.heap.size ≤ Bm) (ho : Bm ∉ Y.tall) {m' : Mt} (hs : LnStep [] (.vi Bm 0) m' W W') : Real a w0 Y t W' ∧ MAt Bm 0 m' W' ∧ Past [Bm] W W' := by
  have hp : Past [Bm] W W' := hs.past
  exact ⟨h.past hp (fun b hb' => by
    obtain rfl : b = Bm := by simpa using hb'
    exact ⟨hb, ho⟩), hs.at', hp⟩
theorem Real.tstep (h : Real a w0 Y t W) {i : Nat} (hi : i < Y.N) {t' : Tb} (hs : TStep (Y.T i) (Y.B i) t' W W') (ok : t'.Ok) (hn : t'.n = (t i).n) : Real a w0 Y (up t i t') W' ∧ Past Y.tall W W' :=
  ⟨h.step (d := []) hi (by simpa using hs.past) hs.at' ok (hn.trans (h.tn i hi)) (fun b hb => by cases hb), hs.past.mono fun b hb => Lay.tin hi hb⟩
variable {Bm : Nat} {m : Mt}
theorem vscan_any (h : Real a w0 Y t W) (h0 : 0 < Y.N) (hm : MAt Bm 0 m W) (hb : w0.heap.size ≤ Bm) (ho : Bm ∉ Y.tall) (i : Nat) (hi : i < Y.n 0) :
    Calls Tryz.prog 29 #[.pointer (some ⟨Y.T 0, 0, none⟩), .agg #[.pointer (some ⟨Bm, 2, none⟩)], .int .i64 i] W fun e w' => ∃ o c, e = .returned (.tuple #[.slice o (lst t i).length c, .nilIface]) ∧ (lst t i).length ≤ c ∧ ListAt W.heap.size o (lst t i) w' ∧ Real a w0 Y t w' ∧ MAt Bm 0 (m.visits 1) w' ∧ Past [Bm] W w' := by
  have hi' : i < (t 0).n := by rw [h.tn 0 h0]; exact hi
  refine (scan_rd (h.rdv h0 hm hb ho) i hi').mono fun e w' ⟨v, he, hk, hs⟩ => ?_
  obtain ⟨o, c, rfl, hcp, hl⟩ := kept_cap hk
  obtain ⟨h1, h2, h3⟩ := h.look h0 hb ho hs
  have el : (lst t i).length = (fulls ((t 0).gs i)).length := by unfold lst entsG; rw [List.length_map]
  exact ⟨o, c, by rw [he, el], by rw [el]; exact hcp, hl, h1, h2, h3⟩
theorem vseek_any (h : Real a w0 Y t W) {i : Nat} (hi : i < Y.N) (hm : MAt Bm 0 m W) (hb : w0.heap.size ≤ Bm) (ho : Bm ∉ Y.tall) (key hs : Nat) (hk : key < 18446744073709551616) (hh : hs < 18446744073709551616) :
    Calls Tryz.prog 48 #[.pointer (some ⟨Y.T i, 0, none⟩), .agg #[.pointer (some ⟨Bm, 2, none⟩)], .int .u64 key, .int .u64 hs] W fun e w' => e = .returned (spotV (Y.T i) (Y.B i) key hs (lastG (t i) key hs) (roomG (t i) key hs)) ∧ Real a w0 Y t w' ∧ MAt Bm 0 (msee m (looks (t i) key hs)) w' ∧ Past [Bm] W w' :=
  ((h.rdv hi hm hb ho).seek key hs hk hh).mono fun e w' ⟨he, hs'⟩ => by
    obtain ⟨h1, h2, h3⟩ := h.look hi hb ho hs'
    rw [see_vi] at h2
    exact ⟨he, h1, h2, h3⟩
theorem vdelete_any (h : Real a w0 Y t W) {i : Nat} (hi : i < Y.N) (hm : MAt Bm 0 m W) (hb : w0.heap.size ≤ Bm) (ho : Bm ∉ Y.tall) (key hs : Nat) (hk : key < 18446744073709551616) (hh : hs < 18446744073709551616) :
    Calls Tryz.prog 105 #[.pointer (some ⟨Y.T i, 0, none⟩), .agg #[.pointer (some ⟨Bm, 2, none⟩)], .int .u64 key, .int .u64 hs] W fun e w' => ∃ v t' m', e = .returned v ∧ Real a w0 Y t' w' ∧ MAt Bm 0 m' w' ∧ Past (Bm :: Y.tall) W w' :=
  (delete_tab (h.rdv hi hm hb ho) key hs hk hh).mono fun e w' ⟨he, hs'⟩ => by
    obtain ⟨h1, h2, h3⟩ := h.tl hi hb ho hs' (h.ok i hi).remove (remove_n ..)
    exact ⟨_, _, _, he, h1, h2, h3⟩
theorem ntake_any (h : Real a w0 Y t W) (h0 : 0 < Y.N) (i : Nat) (hi : i < Y.n 0) :
    Calls Tryz.prog 73 #[.pointer (some ⟨Y.T 0, 0, none⟩), .agg #[.pointer none], .int .i64 i] W fun e w' => ∃ v, e = .returned (.tuple #[v, .nilIface]) ∧ Real a w0 Y (tak t i) w' ∧ Past Y.tall W w' := by
  have hi' : i < (t 0).n := by rw [h.tn 0 h0]; exact hi
  refine (take_in (h.rd h0) i hi').mono fun e w' ⟨v, he, hk, hs⟩ => ?_
  obtain ⟨h1, h2⟩ := h.tstep h0 hs.tstep (tk_ok (h.ok 0 h0) hi' 8 (Nat.le_refl _)) (tk_n _ _ _)
  exact ⟨v, he, h1, h2⟩
theorem nfind_any (h : Real a w0 Y t W) {i : Nat} (hi : i < Y.N) (key hs : Nat) (hk : key < 18446744073709551616) (hh : hs < 18446744073709551616) :
    Calls Tryz.prog 22 #[.pointer (some ⟨Y.T i, 0, none⟩), .agg #[.pointer none], .int .u64 key, .int .u64 hs] W fun e w' => e = .returned (.tuple #[group.entV (entOf (t i) key hs).key (entOf (t i) key hs).val (entOf (t i) key hs).hash, .bool (isThere (t i) key hs)]) ∧ Below W.heap.size W w' :=
  (find_tab (h.rd hi) key hs hk hh).mono fun e w' ⟨he, hs'⟩ => ⟨he, Past.nil hs'.past⟩
end
/-- the tables of those beside which the document's lie -/
theorem Real.of {a : String → Addr} {w0 : World} {Y : Lay} {t u : Nat → Tb} {k : Nat → Nat} {W : World} (h : Many a w0 Y t u k W) : Real a w0 Y t W :=
  ⟨h.at', h.ok, h.tn, fun i j hi hj hne b hb e => by
    have hm : ∀ i, ∀ b ∈ [Y.T i, Y.B i], b ∈ Y.bs i := fun i b hb => by
      rcases List.mem_cons.1 hb with rfl | hb
      · exact Y.tbs i
      · obtain rfl : b = Y.B i := by simpa using hb
        exact Y.bbs i
    exact h.sep i j hi hj hne b (hm i b hb) (hm j b e), fun b hb => (h.tall hb).1, h.bel, h.base⟩
theorem Many.lift {a : String → Addr} {w0 : World} {Y : Lay} {t u t' : Nat → Tb} {k : Nat → Nat} {W W' : World} {d : List Nat} (h : Many a w0 Y t u k W) (r : Real a w0 Y t' W') (hp : Past d W W') (hd : ∀ b ∈ d, ∀ i, i < Y.N → b ∉ Y.rb i) : Many a w0 Y t' u k W' :=
  ⟨r.at', r.ok, r.tn, fun i hi => (h.wa i hi).past hp fun b hb e => hd b e i hi (Lay.rmem (by rw [← h.un i hi]; exact hb)), h.uok, h.un, h.ins, h.sep, h.new, r.bel, h.base⟩
theorem Many.tall_rb {a : String → Addr} {w0 : World} {Y : Lay} {t u : Nat → Tb} {k : Nat → Nat} {W : World} (h : Many a w0 Y t u k W) : ∀ b ∈ Y.tall, ∀ i, i < Y.N → b ∉ Y.rb i := fun b hb i hi e => by
  obtain ⟨j, hj, hb⟩ := List.mem_flatMap.1 hb
  have hj := List.mem_range.1 hj
  by_cases hij : j = i
  · subst hij
    rcases List.mem_cons.1 hb with rfl | hb
    · exact (h.ins j hj).1 e
    · obtain rfl : b = Y.B j := by simpa using hb
      exact (h.ins j hj).2 e
  · have hb' : b ∈ Y.bs j := by
      rcases List.mem_cons.1 hb with rfl | hb
      · exact Y.tbs j
      · obtain rfl : b = Y.B j := by simpa using hb
        exact Y.bbs j
    exact h.sep j i hj hi hij b hb' (Lay.rbs e)
end Go.Proofs.YtibcokiijlamcaaGreatDoor.evac
