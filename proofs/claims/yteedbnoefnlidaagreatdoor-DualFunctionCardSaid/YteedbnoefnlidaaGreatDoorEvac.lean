/- Evac: several texts in one: plain facts and laws for the walks. No program is named. -/
import Derived.Test.YteedbnoefnlidaaGreatDoorMany
import Derived.Test.YteedbnoefnlidaaGreatDoorSoundA
import Derived.Test.YteedbnoefnlidaaGreatDoorTabEnt
import Derived.Test.YteedbnoefnlidaaGreatDoorSplitFns
import Derived.Test.YteedbnoefnlidaaGreatDoorDrawn
import Derived.LoopTactic

/-! ### evac: entries that are moved into their targets, one by one: the plain mathematics. No function is walked here. -/
namespace Go.Proofs.YteedbnoefnlidaaGreatDoor.evac
open group probe swar table
set_option linter.unusedSimpArgs false
set_option linter.unusedVariables false

/-- which of N tables a hash's target is -/
def tgt (N d h : Nat) : Nat := if N = 3 then 1 + split.bitN h d else 1
theorem tgt_pos (N d h : Nat) : 1 ≤ tgt N d h := by unfold tgt; split <;> omega
theorem tgt_lt {N : Nat} (hN : N = 2 ∨ N = 3) (d h : Nat) : tgt N d h < N := by
  have := split.bitN_lt h d
  unfold tgt; split <;> omega
/-- an entry is put into its target -/
def mv1 (N d : Nat) (u : Nat → Tb) (e : Sl) : Nat → Tb := up u (tgt N d e.hash) ((u (tgt N d e.hash)).puts e.key e.hash e.val)
def kv1 (N d : Nat) (u : Nat → Tb) (k : Nat → Nat) (e : Sl) : Nat → Nat := up k (tgt N d e.hash) (k (tgt N d e.hash) + looks (u (tgt N d e.hash)) e.key e.hash)
def good1 (N d : Nat) (u : Nat → Tb) (e : Sl) : Bool := putB' (u (tgt N d e.hash)) e.key e.hash && decide (putE' (u (tgt N d e.hash)) e.key e.hash = 0)
def mvs (N d : Nat) : (Nat → Tb) → List Sl → Nat → Tb
  | u, [] => u
  | u, e :: l => mvs N d (mv1 N d u e) l
def kvs (N d : Nat) : (Nat → Tb) → (Nat → Nat) → List Sl → Nat → Nat
  | _, k, [] => k
  | u, k, e :: l => kvs N d (mv1 N d u e) (kv1 N d u k e) l
def goods (N d : Nat) : (Nat → Tb) → List Sl → Bool
  | _, [] => true
  | u, e :: l => good1 N d u e && goods N d (mv1 N d u e) l
theorem mvs_snoc (N d : Nat) : ∀ (l : List Sl) (u : Nat → Tb) (e : Sl), mvs N d u (l ++ [e]) = mv1 N d (mvs N d u l) e
  | [], _, _ => rfl
  | x :: l, u, e => mvs_snoc N d l (mv1 N d u x) e
theorem kvs_snoc (N d : Nat) : ∀ (l : List Sl) (u : Nat → Tb) (k : Nat → Nat) (e : Sl), kvs N d u k (l ++ [e]) = kv1 N d (mvs N d u l) (kvs N d u k l) e
  | [], _, _, _ => rfl
  | x :: l, u, k, e => kvs_snoc N d l (mv1 N d u x) (kv1 N d u k x) e
theorem goods_snoc (N d : Nat) : ∀ (l : List Sl) (u : Nat → Tb) (e : Sl), goods N d u (l ++ [e]) = (goods N d u l && good1 N d (mvs N d u l) e)
  | [], u, e => by simp [goods, mvs]
  | x :: l, u, e => by
    have := goods_snoc N d l (mv1 N d u x) e
    simp only [List.cons_append, goods, mvs, this, Bool.and_assoc]
theorem goods_take {N d : Nat} : ∀ (l : List Sl) (u : Nat → Tb) (c : Nat), goods N d u l = true → goods N d u (l.take c) = true
  | [], u, c, h => by simpa using h
  | x :: l, u, 0, h => rfl
  | x :: l, u, c + 1, h => by
    simp only [goods, List.take_succ_cons, Bool.and_eq_true] at h ⊢
    exact ⟨h.1, goods_take l _ c h.2⟩
theorem take_next {α : Type} (l : List α) {c : Nat} (h : c < l.length) : l.take (c + 1) = l.take c ++ [l[c]] := by rw [List.take_add_one, List.getElem?_eq_getElem h]; rfl
theorem mv1_n (N d : Nat) (u : Nat → Tb) (e : Sl) (i : Nat) : (mv1 N d u e i).n = (u i).n := by
  unfold mv1 up; split
  · next h => rw [puts_n, h]
  · rfl
theorem mvs_n (N d : Nat) : ∀ (l : List Sl) (u : Nat → Tb) (i : Nat), (mvs N d u l i).n = (u i).n
  | [], _, _ => rfl
  | x :: l, u, i => (mvs_n N d l (mv1 N d u x) i).trans (mv1_n N d u x i)
/-- the taken tables -/
def tak (u : Nat → Tb) (i : Nat) : Nat → Tb := up u 0 (tk (u 0) i 8)
def ktk (k : Nat → Nat) : Nat → Nat := up k 0 (k 0 + 1)
/-- the entries of the next group -/
def lst (u : Nat → Tb) (i : Nat) : List Sl := entsG ((u 0).gs i)
theorem lst_length (u : Nat → Tb) (i : Nat) : (lst u i).length ≤ 8 := by unfold lst entsG; rw [List.length_map]; exact fulls_length _
theorem lst_ok {u : Nat → Tb} (h : (u 0).Ok) (i : Nat) : ∀ s ∈ lst u i, s.Ok := fun s hs => by
  unfold lst entsG at hs
  obtain ⟨k, _, rfl⟩ := List.mem_map.1 hs
  exact h.gs i k
theorem goods_no {N d : Nat} {u : Nat → Tb} {l : List Sl} {j : Nat} (hj : j < l.length) (h : good1 N d (mvs N d u (l.take j)) l[j] = false) : goods N d u l = false := by
  cases e : goods N d u l
  · rfl
  · have := goods_take l u (j + 1) e
    rw [take_next l hj, goods_snoc, h, Bool.and_false] at this
    cases this
theorem kv1_le {N d : Nat} {u : Nat → Tb} {k : Nat → Nat} {K : Nat} (hn : ∀ i, i < N → (u i).n ≤ 64) (hN : N = 2 ∨ N = 3) (hk : ∀ i, i < N → k i ≤ K) (e : Sl) : ∀ i, i < N → kv1 N d u k e i ≤ K + 64 := fun i hi => by
  unfold kv1 up; split
  · next h =>
    have h1 := looks_le (u (tgt N d e.hash)) e.key e.hash
    have h2 := hn _ (tgt_lt hN d e.hash)
    have h3 := hk _ (tgt_lt hN d e.hash)
    omega
  · have := hk i hi; omega
end Go.Proofs.YteedbnoefnlidaaGreatDoor.evac

/-! ### evac: some tables, without the document's; their calls, by a meter's visits and by none. -/
namespace Go.Proofs.YteedbnoefnlidaaGreatDoor.evac
open Go.ChangeShapes Go.WideShapes Go.ChangeAt Go.RowKit Go.Shelf swar under trap meter group probe lens tail call table
set_option linter.unusedSimpArgs false
set_option linter.unusedVariables false

/-- so many visits more, one by one -/
def msee (m : Mt) (k : Nat) : Mt := (Ln.vi 0 0).see m k
theorem see_vi (B o : Nat) (m : Mt) : ∀ k, (Ln.vi B o).see m k = msee m k
  | 0 => rfl
  | k + 1 => by
    show (Ln.vi B o).one ((Ln.vi B o).see m k) = (Ln.vi 0 0).one ((Ln.vi 0 0).see m k)
    rw [see_vi B o m k]; rfl
theorem msee_add (m : Mt) (j k : Nat) : msee m (j + k) = msee (msee m j) k := Ln.see_add _ m j k
theorem msee_one (m : Mt) : msee m 1 = m.visits 1 := rfl
/-- how many groups the moves of a list look at -/
def lkc (N d : Nat) : (Nat → Tb) → List Sl → Nat
  | _, [] => 0
  | u, e :: l => looks (u (tgt N d e.hash)) e.key e.hash + lkc N d (mv1 N d u e) l
theorem lkc_snoc (N d : Nat) : ∀ (l : List Sl) (u : Nat → Tb) (e : Sl), lkc N d u (l ++ [e]) = lkc N d u l + looks (mvs N d u l (tgt N d e.hash)) e.key e.hash
  | [], u, e => by simp [lkc, mvs]
  | x :: l, u, e => by
    have := lkc_snoc N d l (mv1 N d u x) e
    simp only [List.cons_append, lkc, mvs, this, Nat.add_assoc]
theorem list_past {b : Nat} {o : Option Addr} {l : List Sl} {W W' : World} {d : List Nat} (h : ListAt b o l W) (hp : Past d W W') (hd : ∀ x ∈ d, x < b) : ListAt b o l W' := sound.list_kp h (sound.KpD.of hp) hd
/-- what is taken out of the old table stays aside of what the targets do -/
theorem up_comm {α : Type} (t : Nat → α) {i j : Nat} (h : i ≠ j) (x y : α) : up (up t i x) j y = up (up t j y) i x := by
  funext k; unfold up
  by_cases e1 : k = j
  · subst e1; rw [if_pos rfl, if_neg (Ne.symm h), if_pos rfl]
  · rw [if_neg e1]; split
    · rfl
    · rfl
theorem mv1_zero (N d : Nat) (u : Nat → Tb) (e : Sl) : mv1 N d u e 0 = u 0 := by
  have h := tgt_pos N d e.hash
  unfold mv1; rw [up_ne]; omega
theorem mv1_tak (N d : Nat) (u : Nat → Tb) (i : Nat) (e : Sl) : mv1 N d (tak u i) e = tak (mv1 N d u e) i := by
  have h := tgt_pos N d e.hash
  have e1 : 0 ≠ tgt N d e.hash := by omega
  have e2 : tak (mv1 N d u e) i = up (mv1 N d u e) 0 (tk (u 0) i 8) := by unfold tak; rw [mv1_zero]
  rw [e2]
  unfold mv1 tak
  rw [up_ne _ _ (Ne.symm e1), up_comm _ e1]
theorem mvs_zero (N d : Nat) : ∀ (l : List Sl) (u : Nat → Tb), mvs N d u l 0 = u 0
  | [], _ => rfl
  | e :: l, u => (mvs_zero N d l (mv1 N d u e)).trans (mv1_zero N d u e)
theorem tak_at (N d : Nat) (u : Nat → Tb) (i : Nat) (h : Nat) : tak u i (tgt N d h) = u (tgt N d h) := by
  have := tgt_pos N d h
  unfold tak; rw [up_ne]; omega
theorem mvs_tak (N d : Nat) (i : Nat) : ∀ (l : List Sl) (u : Nat → Tb), mvs N d (tak u i) l = tak (mvs N d u l) i
  | [], _ => rfl
  | e :: l, u => by
    show mvs N d (mv1 N d (tak u i) e) l = _
    rw [mv1_tak]; exact mvs_tak N d i l (mv1 N d u e)
theorem good1_tak (N d : Nat) (i : Nat) (u : Nat → Tb) (e : Sl) : good1 N d (tak u i) e = good1 N d u e := by
  unfold good1; rw [tak_at]
theorem goods_tak (N d : Nat) (i : Nat) : ∀ (l : List Sl) (u : Nat → Tb), goods N d (tak u i) l = goods N d u l
  | [], _ => rfl
  | e :: l, u => by
    show (good1 N d (tak u i) e && goods N d (mv1 N d (tak u i) e) l) = _
    rw [mv1_tak, good1_tak, goods_tak N d i l (mv1 N d u e)]; rfl
theorem lkc_tak (N d : Nat) (i : Nat) : ∀ (l : List Sl) (u : Nat → Tb), lkc N d (tak u i) l = lkc N d u l
  | [], _ => rfl
  | e :: l, u => by
    show looks (tak u i (tgt N d e.hash)) e.key e.hash + lkc N d (mv1 N d (tak u i) e) l = _
    rw [mv1_tak, tak_at, lkc_tak N d i l (mv1 N d u e)]; rfl

theorem kept_cap {base : Nat} {W : World} {v : Value} {g : Gp} {l : List Nat} (h : group.Kept base W v g l) : ∃ o c, v = .slice o l.length c ∧ l.length ≤ c ∧ ListAt base o (l.map g) W := by
  obtain ⟨o, c, e, hl⟩ := Kept.list h
  rcases h.2 with ⟨h2, hn⟩ | ⟨B, c', cur, h2, hbase, hB, hn, _⟩
  · exact ⟨o, c, e, by omega, hl⟩
  · rw [e] at h2
    injection h2 with _ _ h3
    exact ⟨o, c, e, by omega, hl⟩
theorem Ot.pair {Y : Lay} {x i : Nat} (h : x ∉ Y.tall) (hi : i < Y.N) : x ≠ Y.T i ∧ x ≠ Y.B i :=
  ⟨fun e => h (Lay.tin hi (by simp [e])), fun e => h (Lay.tin hi (by simp [e]))⟩
/-- the tables hold t; all of it is new since w0 -/
structure Real (a : String → Addr) (w0 : World) (Y : Lay) (t : Nat → Tb) (W : World) : Prop where
  at' : ∀ i, i < Y.N → TAt (Y.T i) (Y.B i) (t i) W
  ok : ∀ i, i < Y.N → (t i).Ok
  tn : ∀ i, i < Y.N → (t i).n = Y.n i
  sep : ∀ i j, i < Y.N → j < Y.N → i ≠ j → ∀ b ∈ [Y.T i, Y.B i], b ∉ [Y.T j, Y.B j]
  new : ∀ b ∈ Y.tall, w0.heap.size ≤ b
  bel : Below w0.heap.size w0 W
  base : Bq a w0
section
variable {a : String → Addr} {w0 : World} {Y : Lay} {t : Nat → Tb} {W W' : World}
theorem Real.read (h : Real a w0 Y t W) (hb : Below W.heap.size W W') : Real a w0 Y t W' :=
  ⟨fun i hi => (h.at' i hi).below hb, h.ok, h.tn, h.sep, h.new, under.below_step h.bel hb, h.base⟩
theorem Real.past {d : List Nat} (h : Real a w0 Y t W) (hp : Past d W W') (hd : ∀ b ∈ d, w0.heap.size ≤ b ∧ b ∉ Y.tall) : Real a w0 Y t W' :=
  ⟨fun i hi => (h.at' i hi).past hp (fun e => (hd _ e).2 (Lay.tin hi (by simp))) (fun e => (hd _ e).2 (Lay.tin hi (by simp))), h.ok, h.tn, h.sep, h.new, h.bel.trans (hp.below h.bel.size fun b hb => (hd b hb).1), h.base⟩
theorem Real.step {d : List Nat} {t' : Tb} (h : Real a w0 Y t W) {i : Nat} (hi : i < Y.N) (hp : Past ([Y.T i, Y.B i] ++ d) W W') (hT : TAt (Y.T i) (Y.B i) t' W') (ok : t'.Ok) (hn : t'.n = Y.n i) (hd : ∀ b ∈ d, w0.heap.size ≤ b ∧ b ∉ Y.tall) : Real a w0 Y (up t i t') W' := by
  have ho : ∀ j, j < Y.N → j ≠ i → ∀ b ∈ [Y.T j, Y.B j], b ∉ [Y.T i, Y.B i] ++ d := fun j hj hne b hb e => by
    rcases List.mem_append.1 e with e | e
    · exact h.sep j i hj hi hne b hb e
    · exact (hd b e).2 (Lay.tin hj hb)
  refine ⟨fun j hj => ?_, fun j hj => ?_, fun j hj => ?_, h.sep, h.new, h.bel.trans (hp.below h.bel.size fun b hb => ?_), h.base⟩
  · by_cases e : j = i
    · subst e; rw [up_same]; exact hT
    · rw [up_ne _ _ e]; exact (h.at' j hj).past hp (ho j hj e _ (by simp)) (ho j hj e _ (by simp))
  · by_cases e : j = i
    · subst e; rw [up_same]; exact ok
    · rw [up_ne _ _ e]; exact h.ok j hj
  · by_cases e : j = i
    · subst e; rw [up_same]; exact hn
    · rw [up_ne _ _ e]; exact h.tn j hj
  · rcases List.mem_append.1 hb with hb | hb
    · exact h.new b (Lay.tin hi hb)
    · exact (hd b hb).1
theorem Real.lt (h : Real a w0 Y t W) : ∀ b ∈ Y.tall, b < W.heap.size := fun b hb => by
  obtain ⟨i, hi, hb⟩ := List.mem_flatMap.1 hb
  have hi := List.mem_range.1 hi
  rcases List.mem_cons.1 hb with rfl | hb
  · exact (h.at' i hi).lt
  · obtain rfl : b = Y.B i := by simpa using hb
    exact (h.at' i hi).lb
theorem Real.rd (h : Real a w0 Y t W) {i : Nat} (hi : i < Y.N) : Ready a (Y.T i) (Y.B i) (t i) .nil Mt.zero W :=
  ⟨h.at' i hi, h.ok i hi, trivial, Apart.nil _ _, h.base.bits.below h.bel h.base.bits.lt, (fun b hb => by cases hb), Nat.le_trans h.base.far (h.new _ (Lay.tin hi (by simp))), Nat.le_trans h.base.far (h.new _ (Lay.tin hi (by simp))), h.base.six.below h.bel⟩
theorem Real.rdv (h : Real a w0 Y t W) {i : Nat} (hi : i < Y.N) {Bm : Nat} {m : Mt} (hm : MAt Bm 0 m W) (hb : w0.heap.size ≤ Bm) (ho : Bm ∉ Y.tall) : Ready a (Y.T i) (Y.B i) (t i) (.vi Bm 0) m W :=
  ⟨h.at' i hi, h.ok i hi, hm, (fun b hb' => by
    obtain rfl : b = Bm := by simpa [Ln.d] using hb'
    exact Ot.pair ho hi), h.base.bits.below h.bel h.base.bits.lt, (fun b hb' => by
    obtain rfl : b = Bm := by simpa [Ln.d] using hb'
    exact Nat.le_trans h.base.far hb), Nat.le_trans h.base.far (h.new _ (Lay.tin hi (by simp))), Nat.le_trans h.base.far (h.new _ (Lay.tin hi (by simp))), h.base.six.below h.bel⟩
theorem Real.tl (h : Real a w0 Y t W) {i : Nat} (hi : i < Y.N) {Bm : Nat} (hb : w0.heap.size ≤ Bm) (ho : Bm ∉ Y.tall) {t' : Tb} {m' : Mt} (hs : TL (Y.T i) (Y.B i) t' (.vi Bm 0) m' W W') (ok : t'.Ok) (hn : t'.n = (t i).n) : Real a w0 Y (up t i t') W' ∧ MAt Bm 0 m' W' ∧ Past (Bm :: Y.tall) W W' := by
  refine ⟨h.step hi hs.ln.past hs.at' ok (hn.trans (h.tn i hi)) (fun b hb' => by
    obtain rfl : b = Bm := by simpa [Ln.d] using hb'
    exact ⟨hb, ho⟩), hs.ln.at', hs.ln.past.mono fun b hb' => ?_⟩
  rcases List.mem_append.1 hb' with hb' | hb'
  · exact List.mem_cons_of_mem _ (Lay.tin hi hb')
  · obtain rfl : b = Bm := by simpa [Ln.d] using hb'
    exact List.mem_cons_self
theorem Real.look (h : Real a w0 Y t W) {i : Nat} (hi : i < Y.N) {Bm : Nat} (hb : w0.heap.size ≤ Bm) (ho : Bm ∉ Y.tall) {m' : Mt} (hs : LnStep [] (.vi Bm 0) m' W W') : Real a w0 Y t W' ∧ MAt Bm 0 m' W' ∧ Past [Bm] W W' := by
  have hp : Past [Bm] W W' := hs.past
  exact ⟨h.past hp (fun b hb' => by
    obtain rfl : b = Bm := by simpa using hb'
    exact ⟨hb, ho⟩), hs.at', hp⟩
theorem Real.tstep (h : Real a w0 Y t W) {i : Nat} (hi : i < Y.N) {t' : Tb} (hs : TStep (Y.T i) (Y.B i) t' W W') (ok : t'.Ok) (hn : t'.n = (t i).n) : Real a w0 Y (up t i t') W' ∧ Past Y.tall W W' :=
  ⟨h.step (d := []) hi (by simpa using hs.past) hs.at' ok (hn.trans (h.tn i hi)) (fun b hb => by cases hb), hs.past.mono fun b hb => Lay.tin hi hb⟩
variable {Bm : Nat} {m : Mt}
theorem vscan_any (h : Real a w0 Y t W) (h0 : 0 < Y.N) (hm : MAt Bm 0 m W) (hb : w0.heap.size ≤ Bm) (ho : Bm ∉ Y.tall) (i : Nat) (hi : i < Y.n 0) :
    Calls Tryz.prog 152 #[.pointer (some ⟨Y.T 0, 0, none⟩), .agg #[.pointer (some ⟨Bm, 2, none⟩)], .int .i64 i] W fun e w' => ∃ o c, e = .returned (.tuple #[.slice o (lst t i).length c, .nilIface]) ∧ (lst t i).length ≤ c ∧ ListAt W.heap.size o (lst t i) w' ∧ Real a w0 Y t w' ∧ MAt Bm 0 (m.visits 1) w' ∧ Past [Bm] W w' := by
  have hi' : i < (t 0).n := by rw [h.tn 0 h0]; exact hi
  refine (scan_rd (h.rdv h0 hm hb ho) i hi').mono fun e w' ⟨v, he, hk, hs⟩ => ?_
  obtain ⟨o, c, rfl, hcp, hl⟩ := kept_cap hk
  obtain ⟨h1, h2, h3⟩ := h.look h0 hb ho hs
  have el : (lst t i).length = (fulls ((t 0).gs i)).length := by unfold lst entsG; rw [List.length_map]
  exact ⟨o, c, by rw [he, el], by rw [el]; exact hcp, hl, h1, h2, h3⟩
theorem vseek_any (h : Real a w0 Y t W) {i : Nat} (hi : i < Y.N) (hm : MAt Bm 0 m W) (hb : w0.heap.size ≤ Bm) (ho : Bm ∉ Y.tall) (key hs : Nat) (hk : key < 18446744073709551616) (hh : hs < 18446744073709551616) :
    Calls Tryz.prog 50 #[.pointer (some ⟨Y.T i, 0, none⟩), .agg #[.pointer (some ⟨Bm, 2, none⟩)], .int .u64 key, .int .u64 hs] W fun e w' => e = .returned (spotV (Y.T i) (Y.B i) key hs (lastG (t i) key hs) (roomG (t i) key hs)) ∧ Real a w0 Y t w' ∧ MAt Bm 0 (msee m (looks (t i) key hs)) w' ∧ Past [Bm] W w' :=
  ((h.rdv hi hm hb ho).seek key hs hk hh).mono fun e w' ⟨he, hs'⟩ => by
    obtain ⟨h1, h2, h3⟩ := h.look hi hb ho hs'
    rw [see_vi] at h2
    exact ⟨he, h1, h2, h3⟩
theorem vdelete_any (h : Real a w0 Y t W) {i : Nat} (hi : i < Y.N) (hm : MAt Bm 0 m W) (hb : w0.heap.size ≤ Bm) (ho : Bm ∉ Y.tall) (key hs : Nat) (hk : key < 18446744073709551616) (hh : hs < 18446744073709551616) :
    Calls Tryz.prog 58 #[.pointer (some ⟨Y.T i, 0, none⟩), .agg #[.pointer (some ⟨Bm, 2, none⟩)], .int .u64 key, .int .u64 hs] W fun e w' => ∃ v t' m', e = .returned v ∧ Real a w0 Y t' w' ∧ MAt Bm 0 m' w' ∧ Past (Bm :: Y.tall) W w' :=
  (delete_tab (h.rdv hi hm hb ho) key hs hk hh).mono fun e w' ⟨he, hs'⟩ => by
    obtain ⟨h1, h2, h3⟩ := h.tl hi hb ho hs' (h.ok i hi).remove (remove_n ..)
    exact ⟨_, _, _, he, h1, h2, h3⟩
theorem ntake_any (h : Real a w0 Y t W) (h0 : 0 < Y.N) (i : Nat) (hi : i < Y.n 0) :
    Calls Tryz.prog 155 #[.pointer (some ⟨Y.T 0, 0, none⟩), .agg #[.pointer none], .int .i64 i] W fun e w' => ∃ v, e = .returned (.tuple #[v, .nilIface]) ∧ Real a w0 Y (tak t i) w' ∧ Past Y.tall W w' := by
  have hi' : i < (t 0).n := by rw [h.tn 0 h0]; exact hi
  refine (take_in (h.rd h0) i hi').mono fun e w' ⟨v, he, hk, hs⟩ => ?_
  obtain ⟨h1, h2⟩ := h.tstep h0 hs.tstep (tk_ok (h.ok 0 h0) hi' 8 (Nat.le_refl _)) (tk_n _ _ _)
  exact ⟨v, he, h1, h2⟩
theorem nfind_any (h : Real a w0 Y t W) {i : Nat} (hi : i < Y.N) (key hs : Nat) (hk : key < 18446744073709551616) (hh : hs < 18446744073709551616) :
    Calls Tryz.prog 60 #[.pointer (some ⟨Y.T i, 0, none⟩), .agg #[.pointer none], .int .u64 key, .int .u64 hs] W fun e w' => e = .returned (.tuple #[group.entV (entOf (t i) key hs).key (entOf (t i) key hs).val (entOf (t i) key hs).hash, .bool (isThere (t i) key hs)]) ∧ Below W.heap.size W w' :=
  (find_tab (h.rd hi) key hs hk hh).mono fun e w' ⟨he, hs'⟩ => ⟨he, Past.nil hs'.past⟩
end
/-- the tables of those beside which the document's lie -/
theorem Real.of {a : String → Addr} {w0 : World} {Y : Lay} {t u : Nat → Tb} {k : Nat → Nat} {W : World} (h : Many a w0 Y t u k W) : Real a w0 Y t W :=
  ⟨h.at', h.ok, h.tn, fun i j hi hj hne b hb e => by
    have hm : ∀ i, ∀ b ∈ [Y.T i, Y.B i], b ∈ Y.bs i := fun i b hb => by
      rcases List.mem_cons.1 hb with rfl | hb
      · exact Y.tbs i
      · obtain rfl : b = Y.B i := by simpa using hb
        exact Y.bbs i
    exact h.sep i j hi hj hne b (hm i b hb) (hm j b e), fun b hb => (h.tall hb).1, h.bel, h.base⟩
theorem Many.lift {a : String → Addr} {w0 : World} {Y : Lay} {t u t' : Nat → Tb} {k : Nat → Nat} {W W' : World} {d : List Nat} (h : Many a w0 Y t u k W) (r : Real a w0 Y t' W') (hp : Past d W W') (hd : ∀ b ∈ d, ∀ i, i < Y.N → b ∉ Y.rb i) : Many a w0 Y t' u k W' :=
  ⟨r.at', r.ok, r.tn, fun i hi => (h.wa i hi).past hp fun b hb e => hd b e i hi (Lay.rmem (by rw [← h.un i hi]; exact hb)), h.uok, h.un, h.ins, h.sep, h.new, r.bel, h.base⟩
theorem Many.tall_rb {a : String → Addr} {w0 : World} {Y : Lay} {t u : Nat → Tb} {k : Nat → Nat} {W : World} (h : Many a w0 Y t u k W) : ∀ b ∈ Y.tall, ∀ i, i < Y.N → b ∉ Y.rb i := fun b hb i hi e => by
  obtain ⟨j, hj, hb⟩ := List.mem_flatMap.1 hb
  have hj := List.mem_range.1 hj
  by_cases hij : j = i
  · subst hij
    rcases List.mem_cons.1 hb with rfl | hb
    · exact (h.ins j hj).1 e
    · obtain rfl : b = Y.B j := by simpa using hb
      exact (h.ins j hj).2 e
  · have hb' : b ∈ Y.bs j := by
      rcases List.mem_cons.1 hb with rfl | hb
      · exact Y.tbs j
      · obtain rfl : b = Y.B j := by simpa using hb
        exact Y.bbs j
    exact h.sep j i hj hi hij b hb' (Lay.rbs e)
end Go.Proofs.YteedbnoefnlidaaGreatDoor.evac

/-! ### evac: where an evacuation lies, and what it answers. -/
namespace Go.Proofs.YteedbnoefnlidaaGreatDoor.evac
open Go.ChangeShapes Go.WideShapes Go.ChangeAt Go.RowKit Go.Shelf swar under trap meter group probe lens tail call table
attribute [local go_sem] Oper.semAt_some stage.pureUpon move.stepUpon
set_option linter.unusedSimpArgs false
set_option linter.unusedVariables false

/-- the depth that is kept: with one target none -/
def dq (N d : Nat) : Nat := if N = 3 then d else 0
theorem dq_le {N d : Nat} (h : d ≤ 15) : dq N d ≤ 15 := by unfold dq; split <;> omega
/-- an evacuation: its tables are those of Y, so many groups are moved -/
structure EvAt (V : Nat) (Y : Lay) (d next : Nat) (W : World) : Prop where
  row : W.heap[V]? = some (.cells #[.pointer (some ⟨Y.T 0, 0, none⟩), .int .i64 (Y.n 0 : Nat), .int .i64 (next : Nat), .int .i64 (dq Y.N d : Nat), .pointer (some ⟨Y.T 1, 0, none⟩), .pointer (some ⟨Y.T (Y.N - 1), 0, none⟩)] 180 (0, 0))
section
variable {V : Nat} {Y : Lay} {d next : Nat} {W W' : World}
theorem EvAt.lt (h : EvAt V Y d next W) : V < W.heap.size := (Array.getElem?_eq_some_iff.1 h.row).1
theorem EvAt.keep (h : EvAt V Y d next W) (hb : Below W.heap.size W W') : EvAt V Y d next W' := ⟨(hb.block V h.lt).trans h.row⟩
theorem EvAt.past {l : List Nat} (h : EvAt V Y d next W) (hp : Past l W W') (hE : V ∉ l) : EvAt V Y d next W' := ⟨(hp.block V h.lt hE).trans h.row⟩
theorem EvAt.c0 (h : EvAt V Y d next W) : W.cell? ⟨V, 0, none⟩ = some (.pointer (some ⟨Y.T 0, 0, none⟩)) := by rw [cell_of_row _ _ _ _ _ _ h.row]; rfl
theorem EvAt.c1 (h : EvAt V Y d next W) : W.cell? ⟨V, 1, none⟩ = some (.int .i64 (Y.n 0 : Nat)) := by rw [cell_of_row _ _ _ _ _ _ h.row]; rfl
theorem EvAt.c2 (h : EvAt V Y d next W) : W.cell? ⟨V, 2, none⟩ = some (.int .i64 (next : Nat)) := by rw [cell_of_row _ _ _ _ _ _ h.row]; rfl
theorem EvAt.c3 (h : EvAt V Y d next W) : W.cell? ⟨V, 3, none⟩ = some (.int .i64 (dq Y.N d : Nat)) := by rw [cell_of_row _ _ _ _ _ _ h.row]; rfl
theorem EvAt.c4 (h : EvAt V Y d next W) : W.cell? ⟨V, 4, none⟩ = some (.pointer (some ⟨Y.T 1, 0, none⟩)) := by rw [cell_of_row _ _ _ _ _ _ h.row]; rfl
theorem EvAt.c5 (h : EvAt V Y d next W) : W.cell? ⟨V, 5, none⟩ = some (.pointer (some ⟨Y.T (Y.N - 1), 0, none⟩)) := by rw [cell_of_row _ _ _ _ _ _ h.row]; rfl
theorem EvAt.fz (h : EvAt V Y d next W) (i : Nat) : W.frozen? ⟨V, i, none⟩ = false := frozen_of_row _ _ i _ _ h.row
theorem EvAt.set2 (h : EvAt V Y d next W) (x : Nat) : EvAt V Y d x (W.setCell ⟨V, 2, none⟩ (.int .i64 (x : Nat))) :=
  ⟨heap_setCell_same W V 2 _ _ _ h.row⟩
end
set_option maxRecDepth 20000 in
theorem left_any (V : Nat) (Y : Lay) (d next : Nat) (hn : next ≤ Y.n 0) (h64 : Y.n 0 ≤ 64) (w : World) (hE : EvAt V Y d next w) :
    Calls Tryz.prog 107 #[.pointer (some ⟨V, 0, none⟩)] w fun e w' => e = .returned (.int .i64 ((Y.n 0 - next : Nat) : Int)) ∧ Below w.heap.size w w' := by
  have y1 := Under.cell hE.c1
  have y2 := Under.cell hE.c2
  have e1 : IntKind.i64.wrap (((Y.n 0 : Nat) : Int) - (next : Int)) = ((Y.n 0 - next : Nat) : Int) := by rw [IntWalk.i64_in _ (by omega)]; omega
  clear hE
  generalize Y.n 0 = n0 at *
  go_enter Tryz.func107, Tryz.ntmps107
  go_wp2
  refine wp_region_under (by kernel_rfl) (by kernel_rfl) ?_
  repeat (go_big_quiet_step (fail))
  refine wpQuiet_nil ?_
  intro wz hwz
  obtain ⟨z, rfl⟩ := hwz
  go_wp2
  go_ret
  exact ⟨rfl, z.below⟩
set_option maxRecDepth 20000 in
theorem target_any (V : Nat) (Y : Lay) (hN : Y.N = 2 ∨ Y.N = 3) (d next h : Nat) (hd : d ≤ 15) (hh : h < 18446744073709551616) (w : World) (hE : EvAt V Y d next w) :
    Calls Tryz.prog 87 #[.pointer (some ⟨V, 0, none⟩), .int .u64 h] w fun e w' => e = .returned (.pointer (some ⟨Y.T (tgt Y.N d h), 0, none⟩)) ∧ Below w.heap.size w w' := by
  have y3 := Under.cell hE.c3
  have g4 := hE.c4
  have g5 := hE.c5
  have hq := dq_le (N := Y.N) hd
  have cB := fun (q : Under w) => split.bit_yes h (dq Y.N d) hh (by omega) q.W
  have cM := fun (n : Int) (q : Under w) => trap.must_nil n q.W
  have hbn := split.bitN_lt h (dq Y.N d)
  have et : Y.T (tgt Y.N d h) = if split.bitN h (dq Y.N d) = 0 then Y.T 1 else Y.T (Y.N - 1) := by
    rcases hN with hN | hN
    · rw [hN, show tgt 2 d h = 1 from rfl]; simp
    · rw [hN, show tgt 3 d h = 1 + split.bitN h d from rfl, show dq 3 d = d from rfl]
      rw [hN, show dq 3 d = d from rfl] at hbn
      obtain e | e : split.bitN h d = 0 ∨ split.bitN h d = 1 := by omega
      · rw [e, if_pos rfl]
      · rw [e, if_neg (by decide)]
  rw [et]
  clear hE et
  generalize dq Y.N d = dd at *
  generalize split.bitN h dd = bt at *
  generalize Y.T 1 = T1 at *
  generalize Y.T (Y.N - 1) = T2 at *
  obtain rfl | rfl : bt = 0 ∨ bt = 1 := by omega
  · rw [if_pos rfl]
    have y4 := Under.cell g4
    go_enter Tryz.func87, Tryz.ntmps87
    go_wp2
    refine wp_region_under (by kernel_rfl) (by kernel_rfl) ?_
    repeat (go_big_quiet_step (first
      | (go_at_call 128; (with_reducible refine under_same (cB _)))
      | (go_at_call 127; (with_reducible refine under_same (cM _ _)))))
    refine wpQuiet_nil ?_
    intro wz hwz
    obtain ⟨z, rfl⟩ := hwz
    clear cB cM y3 y4
    go_wp2
    go_ret
    exact ⟨rfl, z.below⟩
  · rw [if_neg (by decide)]
    have y5 := Under.cell g5
    go_enter Tryz.func87, Tryz.ntmps87
    go_wp2
    refine wp_region_under (by kernel_rfl) (by kernel_rfl) ?_
    repeat (go_big_quiet_step (first
      | (go_at_call 128; (with_reducible refine under_same (cB _)))
      | (go_at_call 127; (with_reducible refine under_same (cM _ _)))))
    refine wpQuiet_nil ?_
    intro wz hwz
    obtain ⟨z, rfl⟩ := hwz
    clear cB cM y3 y5
    go_wp2
    go_ret
    exact ⟨rfl, z.below⟩
end Go.Proofs.YteedbnoefnlidaaGreatDoor.evac

/-! ### evac: Step. -/
namespace Go.Proofs.YteedbnoefnlidaaGreatDoor.evac
open Go.ChangeShapes Go.WideShapes Go.ChangeAt Go.RowKit Go.Shelf swar under trap meter group probe lens tail call table
attribute [local go_sem] Oper.semAt_some stage.pureUpon stage.callUpon move.stepUpon
set_option linter.unusedSimpArgs false
set_option linter.unusedVariables false

theorem must_ents (v : Value) (w : World) : Calls Tryz.prog 151 #[v, .nilIface] w fun e w' => e = .returned v ∧ w = w' := by
  go_enter Tryz.func151, Tryz.ntmps151
  go_wp2_with (go_at_call 149; refine (raise_nil _).mono ?_; rintro e w1 ⟨rfl, rfl⟩)
  go_ret
  exact ⟨rfl, rfl⟩
theorem good1_put (N d : Nat) (u : Nat → Tb) (e : Sl) : good1 N d u e = putB' (u (tgt N d e.hash)) e.key e.hash := by
  unfold good1 putE' putB'
  cases isThere (u (tgt N d e.hash)) e.key e.hash <;> simp
/-- what Place of the spot of a search answers -/
def plcE (t : Tb) (key hs : Nat) : Nat := if isThere t key hs = true then 16 else roomE t key hs
theorem plc_put (t : Tb) (key hs : Nat) : putB' t key hs = decide (plcE t key hs = 0) := by
  unfold putB' plcE; cases isThere t key hs <;> simp
theorem vplace_at {a : String → Addr} {w0 : World} {Y : Lay} {t : Nat → Tb} {W : World} (h : Real a w0 Y t W) {i : Nat} (hi : i < Y.N) (key hs v : Nat) (hk : key < 18446744073709551616) (hh : hs < 18446744073709551616) (hv : v < 18446744073709551616) :
    Calls Tryz.prog 52 #[spotV (Y.T i) (Y.B i) key hs (lastG (t i) key hs) (roomG (t i) key hs), group.entV key v hs] W fun e w' => e = .returned (errAt a (plcE (t i) key hs)) ∧ Real a w0 Y (if putB' (t i) key hs = true then up t i ((t i).puts key hs v) else t) w' ∧ Past Y.tall W w' := by
  cases ht : isThere (t i) key hs
  · have ep : plcE (t i) key hs = roomE (t i) key hs := by unfold plcE; rw [ht]; rfl
    rw [ep]
    refine ((h.rd hi).place key hs v hh ht).mono fun e w' ⟨he, hs'⟩ => ⟨he, ?_⟩
    by_cases hr : roomE (t i) key hs = 0
    · have hp : putB' (t i) key hs = true := by unfold putB'; rw [ht, hr]; rfl
      have ep : (t i).puts key hs v = (t i).place key hs v := by unfold Tb.puts; rw [ht]; rfl
      rw [if_pos hp, ep]
      exact h.tstep hi hs' ((h.ok i hi).place hk hh hv) (place_n ..)
    · have hp : putB' (t i) key hs = false := by unfold putB'; rw [ht]; simp [hr]
      rw [place_no hr] at hs'
      obtain ⟨h1, h2⟩ := h.tstep hi hs' (h.ok i hi) rfl
      rw [up_self] at h1
      rw [if_neg (by simp [hp])]
      exact ⟨h1, h2⟩
  · have hp : putB' (t i) key hs = false := by unfold putB'; rw [ht]; rfl
    have ep : plcE (t i) key hs = 16 := by unfold plcE; rw [ht]; rfl
    rw [ep, if_neg (by simp [hp])]
    exact ((h.rd hi).dup key hs hh ht key v hs).mono fun e w' ⟨he, hb⟩ => ⟨he, h.read hb, Past.of hb⟩
set_option maxRecDepth 100000 in
theorem place_any (V : Nat) (a : String → Addr) (w0 : World) (Y : Lay) (t : Nat → Tb) (hN : Y.N = 2 ∨ Y.N = 3) (d next Bm : Nat) (m : Mt) (hd : d ≤ 15) (en : Sl) (hok : en.Ok) (w : World) (hE : EvAt V Y d next w) (h : Real a w0 Y t w) (hm : MAt Bm 0 m w) (hB0 : w0.heap.size ≤ Bm) (ho : Bm ∉ Y.tall) (nV : V ∉ Bm :: Y.tall) :
    Calls Tryz.prog 153 #[.pointer (some ⟨V, 0, none⟩), .agg #[.pointer (some ⟨Bm, 2, none⟩)], group.entV en.key en.val en.hash] w fun e w' => e = .returned (.bool (good1 Y.N d t en)) ∧ Real a w0 Y (if good1 Y.N d t en = true then mv1 Y.N d t en else t) w' ∧ MAt Bm 0 (msee m (looks (t (tgt Y.N d en.hash)) en.key en.hash)) w' ∧ Past (Bm :: Y.tall) w w' := by
  obtain ⟨_, hkey, hval, hhash, _⟩ := hok
  rw [good1_put]
  unfold mv1
  have hst : tgt Y.N d en.hash < Y.N := tgt_lt hN d en.hash
  have hb2 := two_new w (.cells #[.pointer (some ⟨Bm, 2, none⟩)] 55) (.cells #[.int .u64 (en.key : Nat), .int .u64 (en.val : Nat), .int .u64 (en.hash : Nat)] 43)
  have hz1 := World.size_alloc w (.cells #[.pointer (some ⟨Bm, 2, none⟩)] 55)
  have hX := keepc (new_block _ (.cells #[.int .u64 (en.key : Nat), .int .u64 (en.val : Nat), .int .u64 (en.hash : Nat)] 43)) (newc w (.pointer (some ⟨Bm, 2, none⟩)) 55)
  have hV := EBox.second en.key en.val en.hash w (.cells #[.pointer (some ⟨Bm, 2, none⟩)] 55)
  have hlm : ∀ x ∈ Bm :: Y.tall, x < w.heap.size := fun x hx => by
    rcases List.mem_cons.1 hx with rfl | hx
    · exact hm.lt
    · exact h.lt x hx
  have hE2 := hE.keep hb2
  have h2 := h.read hb2
  have hm2 := hm.below hb2
  have ep := plc_put (t (tgt Y.N d en.hash)) en.key en.hash
  generalize hti : tgt Y.N d en.hash = i at *
  generalize hpe : plcE (t i) en.key en.hash = pe at *
  generalize hgb : putB' (t i) en.key en.hash = gb at *
  have n0 : w.heap.size ∉ Bm :: Y.tall := fun e => by have := hlm _ e; omega
  have n1 : w.heap.size + 1 ∉ Bm :: Y.tall := fun e => by have := hlm _ e; omega
  go_enter Tryz.func153, Tryz.ntmps153
  go_wp2
  generalize (w.alloc (.cells #[.pointer (some ⟨Bm, 2, none⟩)] 55)).alloc (.cells #[.int .u64 (en.key : Nat), .int .u64 (en.val : Nat), .int .u64 (en.hash : Nat)] 43) = W0 at *
  have hd0 := under.drew_below W0
  have pm : ∀ {x y : World}, Past [Bm] x y → Past (Bm :: Y.tall) x y := fun hp => hp.mono fun b hb => by
    obtain rfl : b = Bm := by simpa using hb
    exact List.mem_cons_self
  obtain ⟨D, d0, c1, c2, c3, d3, dA, hne⟩ := stage.triple (W0 := W0.drew) (S1 := fun w' => Below W0.heap.size W0 w')
    (S2 := fun w' => Real a w0 Y t w' ∧ MAt Bm 0 (msee m (looks (t i) en.key en.hash)) w' ∧ Past (Bm :: Y.tall) W0 w')
    (S3 := fun w' => Real a w0 Y (if gb = true then up t i ((t i).puts en.key en.hash en.val) else t) w' ∧ MAt Bm 0 (msee m (looks (t i) en.key en.hash)) w' ∧ Past (Bm :: Y.tall) W0 w')
    ((target_any V Y hN d next en.hash hd hhash W0.drew (hE2.keep hd0)).mono fun e w' ⟨he, hb⟩ => ⟨by rw [hti] at he; exact he, under.below_step hd0 hb⟩)
    (fun wa s1 => (vseek_any (h2.read s1) hst (hm2.below s1) hB0 ho en.key en.hash hkey hhash).mono fun e w' ⟨he, q1, q2, q3⟩ => ⟨he, q1, q2, (Past.of s1).trans (pm q3)⟩)
    (fun wa s2 => (vplace_at s2.1 hst en.key en.hash en.val hkey hhash hval).mono fun e w' ⟨he, q1, q2⟩ => ⟨by rw [hpe] at he; exact he, by rw [hgb] at q1; exact q1, s2.2.1.past q2 ho, s2.2.2.trans (q2.mono fun b hb => List.mem_cons_of_mem _ hb)⟩)
  have hdp : Past (Bm :: Y.tall) W0 W0.drew := Past.of hd0
  have f0 := dA (fun w' => w'.cell? ⟨w.heap.size, 0, none⟩ = some (.pointer (some ⟨Bm, 2, none⟩))) (hdp.cell hX n0) (fun w' s => (Past.of s).cell hX n0) (fun w' s => s.2.2.cell hX n0) (fun w' s => s.2.2.cell hX n0)
  have f1 := dA (fun w' => w'.cell? ⟨w.heap.size + 1, 0, none⟩ = some (.int .u64 (en.key : Nat))) (hdp.cell hV.c0 n1) (fun w' s => (Past.of s).cell hV.c0 n1) (fun w' s => s.2.2.cell hV.c0 n1) (fun w' s => s.2.2.cell hV.c0 n1)
  have f2 := dA (fun w' => w'.cell? ⟨w.heap.size + 1, 1, none⟩ = some (.int .u64 (en.val : Nat))) (hdp.cell hV.c1 n1) (fun w' s => (Past.of s).cell hV.c1 n1) (fun w' s => s.2.2.cell hV.c1 n1) (fun w' s => s.2.2.cell hV.c1 n1)
  have f3 := dA (fun w' => w'.cell? ⟨w.heap.size + 1, 2, none⟩ = some (.int .u64 (en.hash : Nat))) (hdp.cell hV.c2 n1) (fun w' s => (Past.of s).cell hV.c2 n1) (fun w' s => s.2.2.cell hV.c2 n1) (fun w' s => s.2.2.cell hV.c2 n1)
  have C1 := Lib.hid c1
  have C2 := Lib.hid c2
  have C3 := Lib.hid c3
  have D3 := Lib.hid d3
  have HB := Lib.hid hb2
  clear hpe hgb c1 c2 c3 d3 dA hV hX hb2 hE2 h2 hm2 hlm n0 n1 hE h hm hdp hd0 hz1
  refine (wpIn_wide (n := 3)).1 ?_
  refine move.region (D := D) 14 [false, false, false, true, false, false, false, false, false, true, false, true, false, false] (by kernel_rfl) (by kernel_rfl) (by kernel_rfl) d0 ?_
  clear d0
  simp only [List.take_succ_cons, List.take_zero, List.drop_succ_cons, List.drop_zero]
  iterate 3 (refine move.pure_step (fun _ _ _ => trivial) (fun K hK => ?_); go_simp; refine hK _ ?_; clear hK K)
  refine move.move_step (v := .pointer (some ⟨Y.T i, 0, none⟩)) (fun _ _ _ => trivial) (by kernel_rfl) (fun wd hd => ?_) (fun K hK => ?_)
  · go_simp
    exact callsIn_wide.2 (C1.out _ hd)
  refine hK _ ?_
  clear hK K
  go_simp
  iterate 5 (refine move.pure_step (fun _ _ _ => trivial) (fun K hK => ?_); go_simp; refine hK _ ?_; clear hK K)
  refine move.move_step (v := spotV (Y.T i) (Y.B i) en.key en.hash (lastG (t i) en.key en.hash) (roomG (t i) en.key en.hash)) (fun _ _ _ => trivial) (by kernel_rfl) (fun wd hd => ?_) (fun K hK => ?_)
  · go_simp
    exact callsIn_wide.2 (C2.out _ hd)
  refine hK _ ?_
  clear hK K
  go_simp
  iterate 1 (refine move.pure_step (fun _ _ _ => trivial) (fun K hK => ?_); go_simp; refine hK _ ?_; clear hK K)
  refine move.move_step (v := errAt a pe) (fun _ _ _ => trivial) (by kernel_rfl) (fun wd hd => ?_) (fun K hK => ?_)
  · go_simp
    exact callsIn_wide.2 (C3.out _ hd)
  refine hK _ ?_
  clear hK K C1 C2 C3
  cases pe with
  | zero =>
    obtain rfl : gb = true := ep.trans (by decide)
    clear ep
    rw [show errAt a 0 = .nilIface from rfl]
    go_simp
    iterate 2 (refine move.pure_step (fun _ _ _ => trivial) (fun K hK => ?_); go_simp; refine hK _ ?_; clear hK K)
    refine move.nil_step (fun w3 h3 => ?_)
    have HR := Lib.hid (D3.out _ h3)
    clear f0 f1 f2 f3 hne h3 D3
    gi_wp2
    go_wp2
    go_ret
    exact ⟨rfl, HR.out.1, HR.out.2.1, (Past.of HB.out).trans HR.out.2.2⟩
  | succ k =>
    obtain rfl : gb = false := ep.trans (decide_eq_false (by omega))
    clear ep
    obtain ⟨x, hx⟩ : ∃ x, errAt a (k + 1) = errs.errV x := ⟨_, rfl⟩
    rw [hx]
    go_simp
    iterate 2 (refine move.pure_step (fun _ _ _ => trivial) (fun K hK => ?_); go_simp; refine hK _ ?_; clear hK K)
    refine move.nil_step (fun w3 h3 => ?_)
    have HR := Lib.hid (D3.out _ h3)
    clear f0 f1 f2 f3 hne h3 D3
    gi_wp2
    go_wp2
    go_ret
    exact ⟨rfl, HR.out.1, HR.out.2.1, (Past.of HB.out).trans HR.out.2.2⟩
end Go.Proofs.YteedbnoefnlidaaGreatDoor.evac

/-! ### evac: move, Step. -/
namespace Go.Proofs.YteedbnoefnlidaaGreatDoor.evac
open Go.ChangeShapes Go.WideShapes Go.ChangeAt Go.RowKit Go.Shelf swar under trap meter group probe lens tail call table
attribute [local go_sem] Oper.semAt_some stage.pureUpon stage.callUpon move.stepUpon
set_option linter.unusedSimpArgs false
set_option linter.unusedVariables false

/-- while entries are taken out of the old table again -/
structure LvI (a : String → Addr) (w0 w : World) (Y : Lay) (l : List Sl) (V d next b Bm X : Nat) (oo : Option Addr) (W : World) : Prop where
  r : ∃ t m, Real a w0 Y t W ∧ MAt Bm 0 m W
  e : EvAt V Y d next W
  li : ListAt b oo l W
  x : W.cell? ⟨X, 0, none⟩ = some (.pointer (some ⟨Bm, 2, none⟩))
  past : Past (Bm :: Y.tall) w W
theorem LvI.go {a : String → Addr} {w0 w : World} {Y : Lay} {l : List Sl} {V d next b Bm X : Nat} {oo : Option Addr} {W W' : World} (h : LvI a w0 w Y l V d next b Bm X oo W) (hb : ∀ x ∈ Bm :: Y.tall, x < b) (nV : V ∉ Bm :: Y.tall) (nX : X ∉ Bm :: Y.tall) {t : Nat → Tb} {m : Mt} (hr : Real a w0 Y t W') (hm : MAt Bm 0 m W') (hp : Past (Bm :: Y.tall) W W') : LvI a w0 w Y l V d next b Bm X oo W' :=
  ⟨⟨t, m, hr, hm⟩, h.e.past hp nV, list_past h.li hp hb, hp.cell h.x nX, h.past.trans hp⟩
theorem LvI.read {a : String → Addr} {w0 w : World} {Y : Lay} {l : List Sl} {V d next b Bm X : Nat} {oo : Option Addr} {W W' : World} (h : LvI a w0 w Y l V d next b Bm X oo W) (hb : Below W.heap.size W W') : LvI a w0 w Y l V d next b Bm X oo W' := by
  obtain ⟨t, m, h1, h2⟩ := h.r
  exact ⟨⟨t, m, h1.read hb, h2.below hb⟩, h.e.keep hb, h.li.read hb, keepc hb h.x, h.past.trans (Past.of hb)⟩
set_option maxRecDepth 100000 in
set_option maxHeartbeats 1000000 in
theorem leave_any (V : Nat) (a : String → Addr) (w0 : World) (Y : Lay) (t : Nat → Tb) (h0 : 0 < Y.N) (d next Bm : Nat) (m : Mt) (l : List Sl) (hl8 : l.length ≤ 8) (hlok : ∀ s ∈ l, s.Ok) (b c : Nat) (oo : Option Addr) (w : World) (hE : EvAt V Y d next w) (h : Real a w0 Y t w) (hm : MAt Bm 0 m w) (hB0 : w0.heap.size ≤ Bm) (ho : Bm ∉ Y.tall) (nV : V ∉ Bm :: Y.tall) (hL : ListAt b oo l w) (hb : ∀ x ∈ Bm :: Y.tall, x < b) :
    Calls Tryz.prog 154 #[.pointer (some ⟨V, 0, none⟩), .agg #[.pointer (some ⟨Bm, 2, none⟩)], .slice oo l.length c] w fun e w' => e = .returned (.tuple #[]) ∧ Past (Bm :: Y.tall) w w' ∧ ∃ t m, Real a w0 Y t w' ∧ MAt Bm 0 m w' := by
  have hlm : ∀ x ∈ Bm :: Y.tall, x < w.heap.size := fun x hx => by
    rcases List.mem_cons.1 hx with rfl | hx
    · exact hm.lt
    · exact h.lt x hx
  have nX : w.heap.size ∉ Bm :: Y.tall := fun e => by have := hlm _ e; omega
  have hb1 := new_block w (.cells #[.pointer (some ⟨Bm, 2, none⟩)] 55)
  have HI := Lib.hid (show LvI a w0 w Y l V d next b Bm w.heap.size oo (w.alloc (.cells #[.pointer (some ⟨Bm, 2, none⟩)] 55)) from ⟨⟨t, m, h.read hb1, hm.below hb1⟩, hE.keep hb1, hL.read hb1, newc w _ _, Past.of hb1⟩)
  clear hE h hm hL hlm hb1
  go_enter Tryz.func154, Tryz.ntmps154
  go_wp2_with (fail)
  generalize w.alloc (.cells #[.pointer (some ⟨Bm, 2, none⟩)] 55) = w1 at *
  generalize w.heap.size = X at *
  go_loopw [10] (fun i wr => ∃ j : Nat, j ≤ l.length ∧ i = .int .i64 j ∧ Hid (LvI a w0 w Y l V d next b Bm X oo wr)) (fun i _ => l.length - (intOf i).toNat)
  case atStart => exact ⟨0, by omega, rfl, HI⟩
  case round =>
    obtain ⟨j, hj, rfl, HR⟩ := hrel
    clear HI
    rcases Nat.lt_or_ge j l.length with hjl | hjl
    · have hji : (j : Int) < (l.length : Int) := by omega
      obtain ⟨x, rfl, hxb, hc0, hc1, hc2⟩ := HR.out.li j hjl
      have hs := hlok _ (List.getElem_mem hjl)
      generalize l[j] = en at *
      obtain ⟨_, hkey, hval, hhash, _⟩ := hs
      have hb5 := new_block wr (.cells #[.int .u64 (en.key : Nat), .int .u64 (en.val : Nat), .int .u64 (en.hash : Nat)] 43)
      have hV := EBox.new en.key en.val en.hash wr
      have HR5 := Lib.hid (HR.out.read hb5)
      have y0 := Under.cell hV.c0
      have y2 := Under.cell hV.c2
      go_wp2
      generalize wr.alloc (.cells #[.int .u64 (en.key : Nat), .int .u64 (en.val : Nat), .int .u64 (en.hash : Nat)] 43) = w7 at *
      obtain ⟨t5, m5, hr5, hm5⟩ := HR5.out.r
      have cD := fun (q : Under w7) => vdelete_any (hr5.read q.below) h0 (hm5.below q.below) hB0 ho en.key en.hash hkey hhash
      have ye := Under.cell HR5.out.e.c0
      have yx := Under.cell HR5.out.x
      clear hr5 hm5
      refine one.wp_region_one 9 _ (by kernel_rfl) (by kernel_rfl) rfl ?_
      simp only [List.take_succ_cons, List.take_zero, List.drop_succ_cons, List.drop_zero]
      repeat (quiet_step (fail))
      refine wpQuiet_nil ?_
      intro y Kc hKc
      have cDy := cD y
      have HRy := Lib.hid (HR5.out.read y.below)
      clear y0 y2 ye yx cD hV hb5
      generalize y.W = w8 at *
      go_simp
      refine cDy.mono ?_
      rintro e w9 ⟨v9, t9, m9, rfl, hr9, hm9, hp9⟩
      go_simp
      refine hKc _ _ ?_
      clear hKc Kc cDy
      repeat (quiet_step (fail))
      refine wpQuiet_nil ?_
      intro y3
      have HX := Lib.hid ((HRy.out.go hb nV nX hr9 hm9 hp9).read y3.below)
      clear hr9 hm9 hp9
      generalize y3.W = w10 at *
      go_wp2
      go_roundw
      case rel => exact ⟨j + 1, by omega, by simp, HX⟩
      case measure => simp [intOf]; omega
    · obtain rfl : j = l.length := by omega
      go_wp2
      go_end0
      exact ⟨rfl, HR.out.past, HR.out.r⟩
/-- while entries are put into their targets -/
structure MvI (a : String → Addr) (w0 w : World) (Y : Lay) (t : Nat → Tb) (l : List Sl) (V d next b Bm X : Nat) (mm : Mt) (oo : Option Addr) (j : Nat) (W : World) : Prop where
  m : Real a w0 Y (mvs Y.N d t (l.take j)) W
  e : EvAt V Y d next W
  mt : MAt Bm 0 (msee mm (lkc Y.N d t (l.take j))) W
  li : ListAt b oo l W
  x : W.cell? ⟨X, 0, none⟩ = some (.pointer (some ⟨Bm, 2, none⟩))
  past : Past (Bm :: Y.tall) w W
  hb : ∀ x ∈ Bm :: Y.tall, x < b
  nV : V ∉ Bm :: Y.tall
  nX : X ∉ Bm :: Y.tall
  g : goods Y.N d t (l.take j) = true
section
variable {a : String → Addr} {w0 w : World} {Y : Lay} {t : Nat → Tb} {l : List Sl} {V d nx b Bm X : Nat} {mm : Mt} {oo : Option Addr} {j : Nat} {W W' : World}
theorem MvI.read (h : MvI a w0 w Y t l V d nx b Bm X mm oo j W) (hb : Below W.heap.size W W') : MvI a w0 w Y t l V d nx b Bm X mm oo j W' :=
  ⟨h.m.read hb, h.e.keep hb, h.mt.below hb, h.li.read hb, keepc hb h.x, h.past.trans (Past.of hb), h.hb, h.nV, h.nX, h.g⟩
theorem MvI.next (h : MvI a w0 w Y t l V d nx b Bm X mm oo j W) (hj : j < l.length)
    (hg : good1 Y.N d (mvs Y.N d t (l.take j)) l[j] = true) (hm : Real a w0 Y (mv1 Y.N d (mvs Y.N d t (l.take j)) l[j]) W') (hmt : MAt Bm 0 (msee (msee mm (lkc Y.N d t (l.take j))) (looks (mvs Y.N d t (l.take j) (tgt Y.N d l[j].hash)) l[j].key l[j].hash)) W') (hp : Past (Bm :: Y.tall) W W') : MvI a w0 w Y t l V d nx b Bm X mm oo (j + 1) W' := by
  refine ⟨?_, h.e.past hp h.nV, ?_, list_past h.li hp h.hb, hp.cell h.x h.nX, h.past.trans hp, h.hb, h.nV, h.nX, ?_⟩
  · rw [take_next l hj, mvs_snoc]; exact hm
  · rw [take_next l hj, lkc_snoc, msee_add]; exact hmt
  · rw [take_next l hj, goods_snoc, h.g, hg]; rfl
end
set_option maxRecDepth 100000 in
set_option maxHeartbeats 1000000 in
theorem move_any (V : Nat) (a : String → Addr) (w0 : World) (Y : Lay) (t : Nat → Tb) (hN : Y.N = 2 ∨ Y.N = 3) (d nx next Bm : Nat) (m : Mt) (hd : d ≤ 15) (hn : next < Y.n 0) (w : World) (hE : EvAt V Y d nx w) (h : Real a w0 Y t w) (hm : MAt Bm 0 m w) (hB0 : w0.heap.size ≤ Bm) (ho : Bm ∉ Y.tall) (nV : V ∉ Bm :: Y.tall) :
    Calls Tryz.prog 109 #[.pointer (some ⟨V, 0, none⟩), .agg #[.pointer (some ⟨Bm, 2, none⟩)], .int .i64 next] w fun e w' =>
      (goods Y.N d t (lst t next) = true ∧ e = .returned (.tuple #[]) ∧ Real a w0 Y (tak (mvs Y.N d t (lst t next)) next) w' ∧ MAt Bm 0 (msee (m.visits 1) (lkc Y.N d t (lst t next))) w' ∧ Past (Bm :: Y.tall) w w') ∨
      (goods Y.N d t (lst t next) = false ∧ e = .panicked (thrown (raisedV (a "ambler/api.ErrBroken"))) ∧ Past (Bm :: Y.tall) w w' ∧ ∃ t', Real a w0 Y t' w') := by
  have h0 : 0 < Y.N := by omega
  have hn64 : Y.n 0 ≤ 64 := by rw [← h.tn 0 h0]; exact okN_le (h.ok 0 h0).n
  have hlm : ∀ x ∈ Bm :: Y.tall, x < w.heap.size := fun x hx => by
    rcases List.mem_cons.1 hx with rfl | hx
    · exact hm.lt
    · exact h.lt x hx
  have nX : w.heap.size ∉ Bm :: Y.tall := fun e => by have := hlm _ e; omega
  have hb1 := new_block w (.cells #[.pointer (some ⟨Bm, 2, none⟩)] 55)
  have hz1 := World.size_alloc w (.cells #[.pointer (some ⟨Bm, 2, none⟩)] 55)
  have hX := newc w (.pointer (some ⟨Bm, 2, none⟩)) 55
  have hE1 := hE.keep hb1
  have h1 := h.read hb1
  have hm1 := hm.below hb1
  have hlok := lst_ok (h.ok 0 h0) next
  have hl8 := lst_length t next
  have hbr := fun W (hb : Below w0.heap.size w0 W) => keepc (hb.mono (Nat.le_refl _)) h.base.broken
  have HBR := Lib.hid hbr
  have hnew : ∀ k ∈ Bm :: Y.tall, w0.heap.size ≤ k := fun k hk => by
    rcases List.mem_cons.1 hk with rfl | hk
    · exact hB0
    · exact h.new k hk
  generalize hl : lst t next = l at *
  clear hE h hm hbr
  go_enter Tryz.func109, Tryz.ntmps109
  go_wp2_with (fail)
  have y0 := Under.cell hE1.c0
  have yx := Under.cell hX
  have cS := fun (q : Under (w.alloc (.cells #[.pointer (some ⟨Bm, 2, none⟩)] 55))) => vscan_any (h1.read q.below) h0 (hm1.below q.below) hB0 ho next hn
  rw [hl] at cS
  generalize w.alloc (.cells #[.pointer (some ⟨Bm, 2, none⟩)] 55) = w1 at *
  refine one.wp_region_one 6 _ (by kernel_rfl) (by kernel_rfl) rfl ?_
  simp only [List.take_succ_cons, List.take_zero, List.drop_succ_cons, List.drop_zero]
  repeat (quiet_step (fail))
  refine wpQuiet_nil ?_
  intro y Kc hKc
  have cSy := cS y
  have hby := y.below
  have hE2 := hE1.keep hby
  have hX2 := keepc hby hX
  have hz2 := hby.size
  clear y0 yx cS h1 hm1 hE1 hX
  generalize y.W = w2 at *
  clear y
  go_simp
  refine cSy.mono ?_
  rintro e w3 ⟨oo, co, rfl, hco, hL, hR3, hm3, hp3⟩
  go_simp
  refine hKc _ _ ?_
  clear hKc Kc cSy
  have cM := fun (v : Value) (q : Under w3) => must_ents v q.W
  repeat (quiet_step ((go_at_call 151; (with_reducible refine under_same (cM _ _)))))
  refine wpQuiet_nil ?_
  intro y2
  have hby2 := y2.below
  have pm : Past (Bm :: Y.tall) w2 w3 := hp3.mono fun b hb => by
    obtain rfl : b = Bm := by simpa using hb
    exact List.mem_cons_self
  have HI := Lib.hid (show MvI a w0 w Y t l V d nx w2.heap.size Bm w.heap.size (m.visits 1) oo 0 y2.W from
    ⟨hR3.read hby2, (hE2.past pm nV).keep hby2, hm3.below hby2, hL.read hby2, keepc hby2 (pm.cell hX2 nX), ((Past.of (under.below_step hb1 hby)).trans pm).trans (Past.of hby2), fun x hx => by have := hlm x hx; omega, nV, nX, rfl⟩)
  clear hL hR3 hm3 hp3 pm cM hE2 hX2 hby hby2 hb1 nX hlm nV
  generalize y2.W = w4 at *
  clear y2
  generalize w2.heap.size = b at *
  generalize w.heap.size = X at *
  clear hz1 hz2
  go_wp2_with (fail)
  go_loopw [21] (fun i wr => ∃ j : Nat, j ≤ l.length ∧ i = .int .i64 j ∧ Hid (MvI a w0 w Y t l V d nx b Bm X (m.visits 1) oo j wr)) (fun i _ => l.length - (intOf i).toNat)
  case atStart => exact ⟨0, by omega, rfl, HI⟩
  case round =>
    obtain ⟨j, hj, rfl, HR⟩ := hrel
    clear HI
    rcases Nat.lt_or_ge j l.length with hjl | hjl
    · have hji : (j : Int) < (l.length : Int) := by omega
      obtain ⟨x, rfl, hxb, hc0, hc1, hc2⟩ := HR.out.li j hjl
      have hs := hlok _ (List.getElem_mem hjl)
      have HN := Lib.hid (fun (W V' : World) (hr : MvI a w0 w Y t l V d nx b Bm X (m.visits 1) (some x) j W) hg hm hmt hp => MvI.next (W' := V') hr hjl hg hm hmt hp)
      have HF := Lib.hid (fun hg => goods_no (N := Y.N) (d := d) (u := t) hjl hg)
      have HV := Lib.hid (show ∀ s ∈ l.take j, s.Ok from fun s hs' => hlok s (List.mem_of_mem_take hs'))
      generalize l[j] = en at *
      have hb5 := new_block wr (.cells #[.int .u64 (en.key : Nat), .int .u64 (en.val : Nat), .int .u64 (en.hash : Nat)] 43)
      have hV := EBox.new en.key en.val en.hash wr
      have HR5 := Lib.hid (HR.out.read hb5)
      have cP := place_any V a w0 Y _ hN d nx Bm _ hd en hs _ HR5.out.e HR5.out.m HR5.out.mt hB0 ho HR5.out.nV
      have yx := HR5.out.x
      have y0 := hV.c0
      have y1 := hV.c1
      have y2 := hV.c2
      generalize hgb : good1 Y.N d (mvs Y.N d t (l.take j)) en = gb at *
      have hE7 := HR5.out.e
      have HL7 := HR5.out.li
      have HP7 := HR5.out.past
      have hb7 := HR5.out.hb
      have nV7 := HR5.out.nV
      have nX7 := HR5.out.nX
      cases gb with
      | false =>
        have hjc : j ≤ co := by omega
        clear hV HN
        go_wp2_with (go_at_call 153; refine cP.mono ?_; rintro e w8 ⟨rfl, hr8, hmt8, hp8⟩)
        rw [if_neg (by simp)] at hr8
        have hE8 := hE7.past hp8 nV7
        have yx8 := hp8.cell yx nX7
        have hL8 : ListAt b (some x) (l.take j) w8 := fun i hi => by
          have hi' : i < l.length := by rw [List.length_take] at hi; omega
          have := list_past HL7 hp8 hb7 i hi'
          rw [List.getElem_take]; exact this
        have hlt : (l.take j).length = j := by rw [List.length_take]; omega
        have HBW := Lib.hid hr8.bel
        have cL := fun (q : Under w8) => leave_any V a w0 Y _ h0 d nx Bm _ (l.take j) (by omega) HV.out b co (some x) q.W (hE8.keep q.below) (hr8.read q.below) (hmt8.below q.below) hB0 ho nV7 (hL8.read q.below) hb7
        rw [hlt] at cL
        have yu := Under.cell yx8
        have HP8 := Lib.hid (HP7.trans hp8)
        clear cP hE8 hL8 hr8 hmt8 HL7 hE7 HP7 hp8 yx yx8 y0 y1 y2 hb5 hji
        have hjn : ¬ ((j : Int) < 0) := by omega
        have hjc' : (j : Int) ≤ (co : Int) := by omega
        refine one.wp_region_one 5 _ (by kernel_rfl) (by kernel_rfl) rfl ?_
        simp only [List.take_succ_cons, List.take_zero, List.drop_succ_cons, List.drop_zero]
        repeat (quiet_step (fail))
        refine wpQuiet_nil ?_
        intro y Kc hKc
        have cLy := cL y
        have hby := y.below
        have HBy := Lib.hid (under.below_step HBW.out hby)
        have HPy := Lib.hid (HP8.out.trans (Past.of hby))
        clear yu cL hjn hjc'
        generalize y.W = w9 at *
        go_simp
        refine cLy.mono ?_
        rintro e w10 ⟨rfl, hp10, t10, m10, hr10, _⟩
        go_simp
        refine hKc _ _ ?_
        clear hKc Kc cLy
        repeat (quiet_step (fail))
        refine wpQuiet_nil ?_
        intro y3
        have hb10 := under.below_step (HBy.out.trans (hp10.below HBy.out.size hnew)) y3.below
        have hp11 := (HPy.out.trans hp10).trans (Past.of y3.below)
        have hbr := HBR.out _ hb10
        have HP := Lib.hid hp11
        have HRX := Lib.hid (show ∃ t', Real a w0 Y t' y3.W from ⟨t10, hr10.read y3.below⟩)
        clear hb10 hp11 hp10 hby hr10
        generalize y3.W = w12 at *
        go_wp2_with (go_at_call 149; refine (raise_err _ _).mono ?_; rintro e w11 ⟨rfl, rfl⟩)
        exact ⟨rfl, .inr ⟨HF.out (by simp), rfl, HP.out, HRX.out⟩⟩
      | true =>
        have HP7 := Lib.hid HP7
        clear HV hE7 HL7 nV7 nX7 hb7
        go_wp2_with (go_at_call 153; refine cP.mono ?_; rintro e w8 ⟨rfl, hr8, hmt8, hp8⟩)
        rw [if_pos (by simp)] at hr8
        have HY := Lib.hid (HN.out _ _ HR5.out (by simp) hr8 hmt8 hp8)
        clear cP hr8 hmt8 hp8 HN HF hV yx y0 y1 y2 hb5 HP7
        go_wp2
        go_roundw
        case rel => exact ⟨j + 1, by omega, by simp, HY⟩
        case measure => simp [intOf]; omega
    · obtain rfl : j = l.length := by omega
      have hm := HR.out.m
      have hg := HR.out.g
      have hmt := HR.out.mt
      rw [List.take_length] at hm hg hmt
      have cT := ntake_any hm h0 next hn
      have c0 := HR.out.e.c0
      have cM := fun (v : Value) (W : World) => must_ents v W
      have HG := Lib.hid (And.intro hg (And.intro hmt HR.out.past))
      clear hm hg hmt
      go_wp2_with (first
        | (go_at_call 155; refine cT.mono ?_; rintro e w8 ⟨v8, rfl, hr8, hp8⟩)
        | (go_at_call 151; refine (cM _ _).mono ?_; rintro e w9 ⟨rfl, rfl⟩))
      go_end0
      exact .inl ⟨HG.out.1, rfl, hr8, HG.out.2.1.past hp8 ho, HG.out.2.2.trans (hp8.mono fun b hb => List.mem_cons_of_mem _ hb)⟩
set_option maxRecDepth 20000 in
theorem step_off (V : Nat) (Y : Lay) (d : Nat) (h64 : Y.n 0 ≤ 64) (v : Option Addr) (w : World) (hE : EvAt V Y d (Y.n 0) w) :
    Calls Tryz.prog 71 #[.pointer (some ⟨V, 0, none⟩), .pointer v] w fun e w' => e = .returned (.bool false) ∧ Below w.heap.size w w' := by
  have cL := left_any V Y d (Y.n 0) (Nat.le_refl _) h64 w hE
  rw [Nat.sub_self] at cL
  clear hE
  go_enter Tryz.func71, Tryz.ntmps71
  go_wp2_with (go_at_call 107; refine cL.mono ?_; rintro e w1 ⟨rfl, hb1⟩)
  go_ret
  exact ⟨rfl, hb1⟩
set_option maxRecDepth 100000 in
set_option maxHeartbeats 1000000 in
theorem step_on (V : Nat) (a : String → Addr) (w0 : World) (Y : Lay) (t : Nat → Tb) (hN : Y.N = 2 ∨ Y.N = 3) (d next Bm : Nat) (m : Mt) (hd : d ≤ 15) (hn : next < Y.n 0) (hok : m.Ok) (hu : m.unitE 1 = 0) (w : World) (hE : EvAt V Y d next w) (h : Real a w0 Y t w) (hm : MAt Bm 0 m w) (hB0 : w0.heap.size ≤ Bm) (ho : Bm ∉ Y.tall) (hV0 : w0.heap.size ≤ V) (nV : V ∉ Bm :: Y.tall) :
    Calls Tryz.prog 71 #[.pointer (some ⟨V, 0, none⟩), .pointer (some ⟨Bm, 0, none⟩)] w fun e w' =>
      (goods Y.N d t (lst t next) = true ∧ e = .returned (.bool true) ∧ Real a w0 Y (tak (mvs Y.N d t (lst t next)) next) w' ∧ EvAt V Y d (next + 1) w' ∧ MAt Bm 0 (msee ((m.unit 1).visits 1) (lkc Y.N d t (lst t next))) w' ∧ Past (V :: Bm :: Y.tall) w w') ∨
      (goods Y.N d t (lst t next) = false ∧ e = .panicked (thrown (raisedV (a "ambler/api.ErrBroken"))) ∧ Past (V :: Bm :: Y.tall) w w' ∧ ∃ t', Real a w0 Y t' w') := by
  have h0 : 0 < Y.N := by omega
  have hn64 : Y.n 0 ≤ 64 := by rw [← h.tn 0 h0]; exact okN_le (h.ok 0 h0).n
  have d1 : (((Y.n 0 - next : Nat) : Int) == 0) = false := beq_eq_false_iff_ne.2 (by omega)
  have d1' : ((Y.n 0 - next : Nat) == 0) = false := beq_eq_false_iff_ne.2 (by omega)
  have cL := left_any V Y d next (by omega) hn64 w hE
  have cU := fun W (hb : Below w.heap.size w W) => unit_any a Bm 0 m hok 1 W (hm.below hb) (keepc (under.below_step h.bel hb |>.mono (Nat.le_refl _)) h.base.limit)
  rw [hu] at cU
  have HM := Lib.hid (And.intro h (And.intro hE hm))
  have nVB : V ≠ Bm := fun e => nV (by rw [e]; exact List.mem_cons_self)
  have nVt : V ∉ Y.tall := fun e => nV (List.mem_cons_of_mem _ e)
  clear hE h hm
  generalize m.unit 1 = m1 at *
  generalize hl : lst t next = l at *
  go_enter Tryz.func71, Tryz.ntmps71
  go_wp2_with (first
    | (go_at_call 107; refine cL.mono ?_; rintro e w1 ⟨rfl, hb1⟩)
    | (go_at_call 108; refine (cU _ hb1).mono ?_; rintro e w2 ⟨he, hs2⟩; obtain rfl := ends_zero he; clear he))
  clear cL cU d1 d1'
  have hp2 := (Past.of (d := [Bm]) hb1).trans hs2.past
  have hE2 := HM.out.2.1.past hp2 (by simpa using nVB)
  have hM2 := HM.out.1.past hp2 (fun b hb => by
    obtain rfl : b = Bm := by simpa using hb
    exact ⟨hB0, ho⟩)
  have hm2 := hs2.at'
  clear hs2 hb1
  have y2 := Under.cell hE2.c2
  have cV := fun (q : Under w2) => move_any V a w0 Y t hN d next next Bm m1 hd hn q.W (hE2.keep q.below) (hM2.read q.below) (hm2.below q.below) hB0 ho nV
  rw [hl] at cV
  have HE2 := Lib.hid hE2
  clear hE2 hM2 hm2
  refine one.wp_region_one 7 _ (by kernel_rfl) (by kernel_rfl) rfl ?_
  simp only [List.take_succ_cons, List.take_zero, List.drop_succ_cons, List.drop_zero]
  repeat (quiet_step ((go_at_call 110; (with_reducible refine under_call (working_any _ _ _)))))
  refine wpQuiet_nil ?_
  intro y Kc hKc
  have cVy := cV y
  have hby := y.below
  have HPy := Lib.hid (hp2.trans (Past.of hby))
  have HE3 := Lib.hid (HE2.out.keep hby)
  clear y2 cV hp2 HE2
  generalize y.W = w3 at *
  clear hby
  go_simp
  refine cVy.mono ?_
  have up1 : ∀ {x z : World}, Past [Bm] x z → Past (V :: Bm :: Y.tall) x z := fun hp => hp.mono fun b hb => by
    obtain rfl : b = Bm := by simpa using hb
    exact List.mem_cons_of_mem _ List.mem_cons_self
  have up2 : ∀ {x z : World}, Past (Bm :: Y.tall) x z → Past (V :: Bm :: Y.tall) x z := fun hp => hp.mono fun b hb => List.mem_cons_of_mem _ hb
  rintro e w4 (⟨hg, rfl, hr4, hm4, hp4⟩ | ⟨hg, rfl, hp4, hrx⟩)
  · go_simp
    refine hKc _ _ ?_
    clear hKc Kc cVy
    repeat (quiet_step (fail))
    refine wpQuiet_nil ?_
    intro y2
    have hb5 := y2.below
    have hE5 := (HE3.out.past hp4 nV).keep hb5
    have hr5 := hr4.read hb5
    have hm5 := hm4.below hb5
    have hp5 := ((up1 HPy.out).trans (up2 hp4)).trans (Past.of hb5)
    clear hr4 hm4 hp4 hb5
    generalize y2.W = w5 at *
    have z2 := hE5.c2
    have zf := hE5.fz
    have ew : IntKind.i64.wrap ((next : Int) + 1) = (next : Int) + 1 := IntWalk.i64_in _ (by omega)
    have hE6 : EvAt V Y d (next + 1) (w5.setCell ⟨V, 2, none⟩ (.int .i64 ((next : Int) + 1))) := by
      have := hE5.set2 (next + 1)
      rwa [show ((next + 1 : Nat) : Int) = (next : Int) + 1 by omega] at this
    have hp6 := (Past.refl [V] w5).store (p := ⟨V, 2, none⟩) (.inl (by simp)) (.int .i64 ((next : Int) + 1))
    have HF := Lib.hid (show Real a w0 Y _ _ ∧ EvAt V Y d (next + 1) _ ∧ MAt Bm 0 _ _ ∧ Past (V :: Bm :: Y.tall) w _ from
      ⟨hr5.past hp6 (fun b hb => by
        obtain rfl : b = V := by simpa using hb
        exact ⟨hV0, nVt⟩), hE6, hm5.past hp6 (by simpa using Ne.symm nVB), hp5.trans (hp6.mono fun b hb => by
        obtain rfl : b = V := by simpa using hb
        exact List.mem_cons_self)⟩)
    clear hE5 hr5 hm5 hp5 hE6 hp6
    go_wp2
    go_ret
    exact .inl ⟨hg, rfl, HF.out⟩
  · have HP := Lib.hid ((up1 HPy.out).trans (up2 hp4))
    clear hKc cVy hp4
    go_simp
    exact ⟨rfl, .inr ⟨hg, rfl, HP.out, hrx⟩⟩
end Go.Proofs.YteedbnoefnlidaaGreatDoor.evac
