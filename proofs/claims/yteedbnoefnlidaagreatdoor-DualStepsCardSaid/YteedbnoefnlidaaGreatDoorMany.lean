/- Many: some tables and the document's, side by side. -/
import Derived.Test.YteedbnoefnlidaaGreatDoorTableSpots2
namespace Go.Proofs.YteedbnoefnlidaaGreatDoor.table
open Go.ChangeShapes Go.WideShapes Go.ChangeAt Go.RowKit Go.Shelf swar under trap meter group probe lens tail call
attribute [local go_sem] Oper.semAt_some stage.pureUpon move.stepUpon
set_option linter.unusedSimpArgs false
set_option linter.unusedVariables false

/-- what is asked of the program's variables -/
structure Bq (a : String → Addr) (w : World) : Prop where
  six : Errs6 a w
  broken : w.cell? ⟨3, 0, none⟩ = some (errs.errV (a "ambler/api.ErrBroken"))
  limit : w.cell? ⟨13, 0, none⟩ = some (errs.errV (a "ambler/api.ErrLimit"))
  bits : TabOk w
  far : 17 ≤ w.heap.size
theorem Bq.below {a : String → Addr} {w W : World} (h : Bq a w) (hb : Below w.heap.size w W) : Bq a W := ⟨h.six.below hb, keepc hb h.broken, keepc hb h.limit, h.bits.below hb h.bits.lt, Nat.le_trans h.far hb.size⟩
theorem Bq.of {a : String → Addr} {w : World} (h : Base a w) : Bq a w := ⟨errs6 h.errs, h.errs.at errs.gErrBroken (errs.nm_mem (i := 9) (by decide)), h.errs.at errs.gErrLimit (errs.nm_mem (i := 10) (by decide)), h.bits, h.far⟩
/-- the errors that a table and a meter read -/
def names9 : List String := ["ambler/api.ErrRange", "ambler/api.ErrFull", "ambler/api.ErrForm", "ambler/api.ErrNone", "ambler/api.ErrState", "ambler/api.ErrBroken", "ambler/api.ErrLimit", "ambler/api.ErrKind", "ambler/api.ErrDup"]
theorem nm9 {i : Nat} (h : i < 9) : names9[i]'h ∈ names9 := List.getElem_mem _
theorem Bq.of9 {a : String → Addr} {w : World} (h : errs.ErrsOk names9 a w) (hT : TabOk w) : Bq a w :=
  ⟨⟨⟨h.at errs.gErrRange (nm9 (i := 0) (by decide)), h.at errs.gErrState (nm9 (i := 4) (by decide))⟩, h.at errs.gErrFull (nm9 (i := 1) (by decide)), h.at errs.gErrNone (nm9 (i := 3) (by decide)), h.at errs.gErrKind (nm9 (i := 7) (by decide)), h.at errs.gErrDup (nm9 (i := 8) (by decide))⟩, h.at errs.gErrBroken (nm9 (i := 5) (by decide)), h.at errs.gErrLimit (nm9 (i := 6) (by decide)), hT, hT.lt⟩
/-- where some tables and the document's lie, and of how many groups they are -/
structure Lay where
  N : Nat
  T : Nat → Nat
  B : Nat → Nat
  F : Nat → Rf
  n : Nat → Nat
/-- the blocks of the document's table, of both -/
def Lay.rb (Y : Lay) (i : Nat) : List Nat := (Y.F i).G :: (Y.F i).d (Y.n i)
def Lay.bs (Y : Lay) (i : Nat) : List Nat := Y.T i :: Y.B i :: Y.rb i
theorem Lay.rmem {Y : Lay} {i b : Nat} (h : b ∈ (Y.F i).d (Y.n i) ∨ b = (Y.F i).G) : b ∈ Y.rb i := by
  rcases h with h | rfl
  · exact List.mem_cons_of_mem _ h
  · exact List.mem_cons_self
theorem Lay.rbs {Y : Lay} {i b : Nat} (h : b ∈ Y.rb i) : b ∈ Y.bs i := List.mem_cons_of_mem _ (List.mem_cons_of_mem _ h)
theorem Lay.tbs (Y : Lay) (i : Nat) : Y.T i ∈ Y.bs i := List.mem_cons_self
theorem Lay.bbs (Y : Lay) (i : Nat) : Y.B i ∈ Y.bs i := List.mem_cons_of_mem _ List.mem_cons_self
/-- the blocks of all the document's tables, of all the tables -/
def Lay.rall (Y : Lay) : List Nat := (List.range Y.N).flatMap Y.rb
def Lay.tall (Y : Lay) : List Nat := (List.range Y.N).flatMap fun i => [Y.T i, Y.B i]
theorem Lay.rin {Y : Lay} {i b : Nat} (hi : i < Y.N) (h : b ∈ Y.rb i) : b ∈ Y.rall := List.mem_flatMap.2 ⟨i, List.mem_range.2 hi, h⟩
theorem Lay.tin {Y : Lay} {i b : Nat} (hi : i < Y.N) (h : b ∈ [Y.T i, Y.B i]) : b ∈ Y.tall := List.mem_flatMap.2 ⟨i, List.mem_range.2 hi, h⟩
/-- a block that is none of theirs -/
def Out (Y : Lay) (x : Nat) : Prop := ∀ i, i < Y.N → x ∉ Y.bs i
theorem Out.r {Y : Lay} {x : Nat} (h : Out Y x) : x ∉ Y.rall := fun e => by
  obtain ⟨i, hi, hb⟩ := List.mem_flatMap.1 e
  exact h i (List.mem_range.1 hi) (Lay.rbs hb)
theorem Out.t {Y : Lay} {x : Nat} (h : Out Y x) : x ∉ Y.tall := fun e => by
  obtain ⟨i, hi, hb⟩ := List.mem_flatMap.1 e
  rcases List.mem_cons.1 hb with rfl | hb
  · exact h i (List.mem_range.1 hi) (Y.tbs i)
  · obtain rfl : x = Y.B i := by simpa using hb
    exact h i (List.mem_range.1 hi) (Y.bbs i)
/-- another one at one place -/
def up {α : Type} (t : Nat → α) (i : Nat) (x : α) : Nat → α := fun j => if j = i then x else t j
theorem up_same {α : Type} (t : Nat → α) (i : Nat) (x : α) : up t i x i = x := if_pos rfl
theorem up_ne {α : Type} (t : Nat → α) {i j : Nat} (x : α) (h : j ≠ i) : up t i x j = t j := if_neg h
theorem up_self {α : Type} (t : Nat → α) (i : Nat) : up t i (t i) = t := by
  funext j; unfold up; split
  · next h => rw [h]
  · rfl
theorem up_up {α : Type} (t : Nat → α) (i : Nat) (x y : α) : up (up t i x) i y = up t i y := by
  funext j; unfold up; split <;> rfl
/-- the tables hold t, the document's u, of which k groups were looked at; all of it is new since w0 -/
structure Many (a : String → Addr) (w0 : World) (Y : Lay) (t u : Nat → Tb) (k : Nat → Nat) (W : World) : Prop where
  at' : ∀ i, i < Y.N → TAt (Y.T i) (Y.B i) (t i) W
  ok : ∀ i, i < Y.N → (t i).Ok
  tn : ∀ i, i < Y.N → (t i).n = Y.n i
  wa : ∀ i, i < Y.N → WAt (Y.F i) (u i) (k i) W
  uok : ∀ i, i < Y.N → (u i).Ok
  un : ∀ i, i < Y.N → (u i).n = Y.n i
  ins : ∀ i, i < Y.N → Y.T i ∉ Y.rb i ∧ Y.B i ∉ Y.rb i
  sep : ∀ i j, i < Y.N → j < Y.N → i ≠ j → ∀ b ∈ Y.bs i, b ∉ Y.bs j
  new : ∀ i, i < Y.N → ∀ b ∈ Y.bs i, w0.heap.size ≤ b
  bel : Below w0.heap.size w0 W
  base : Bq a w0
section
variable {a : String → Addr} {w0 : World} {Y : Lay} {t u : Nat → Tb} {k : Nat → Nat} {W W' : World}
theorem Many.lts (h : Many a w0 Y t u k W) {i : Nat} (hi : i < Y.N) {b : Nat} (hb : b ∈ Y.bs i) : b < W.heap.size := by
  rcases List.mem_cons.1 hb with rfl | hb
  · exact (h.at' i hi).lt
  · rcases List.mem_cons.1 hb with rfl | hb
    · exact (h.at' i hi).lb
    · rcases List.mem_cons.1 hb with rfl | hb
      · exact (h.wa i hi).lts (.inr rfl)
      · exact (h.wa i hi).lts (.inl (by rw [h.un i hi]; exact hb))
theorem Many.read (h : Many a w0 Y t u k W) (hb : Below W.heap.size W W') : Many a w0 Y t u k W' :=
  ⟨fun i hi => (h.at' i hi).below hb, h.ok, h.tn, fun i hi => (h.wa i hi).below hb, h.uok, h.un, h.ins, h.sep, h.new, under.below_step h.bel hb, h.base⟩
/-- a step that writes none of their blocks -/
theorem Many.past {d : List Nat} (h : Many a w0 Y t u k W) (hp : Past d W W') (hd : ∀ b ∈ d, w0.heap.size ≤ b) (ho : ∀ i, i < Y.N → ∀ b ∈ Y.bs i, b ∉ d) : Many a w0 Y t u k W' :=
  ⟨fun i hi => (h.at' i hi).past hp (ho i hi _ (Y.tbs i)) (ho i hi _ (Y.bbs i)), h.ok, h.tn, fun i hi => (h.wa i hi).past hp fun b hb => ho i hi b (Lay.rbs (Lay.rmem (by rw [← h.un i hi]; exact hb))), h.uok, h.un, h.ins, h.sep, h.new, h.bel.trans (hp.below h.bel.size hd), h.base⟩
/-- a step of one of the tables -/
theorem Many.real {d : List Nat} {t' : Tb} (h : Many a w0 Y t u k W) {i : Nat} (hi : i < Y.N) (hp : Past (Y.T i :: Y.B i :: d) W W') (hT : TAt (Y.T i) (Y.B i) t' W') (ok : t'.Ok) (hn : t'.n = Y.n i) (hd : ∀ b ∈ d, w0.heap.size ≤ b) (ho : ∀ j, j < Y.N → ∀ b ∈ Y.bs j, b ∉ d) : Many a w0 Y (up t i t') u k W' := by
  have hout : ∀ j, j < Y.N → j ≠ i → ∀ b ∈ Y.bs j, b ∉ Y.T i :: Y.B i :: d := fun j hj hne b hb e => by
    rcases List.mem_cons.1 e with rfl | e
    · exact h.sep j i hj hi hne _ hb (Y.tbs i)
    · rcases List.mem_cons.1 e with rfl | e
      · exact h.sep j i hj hi hne _ hb (Y.bbs i)
      · exact ho j hj b hb e
  have hins : ∀ b ∈ Y.rb i, b ∉ Y.T i :: Y.B i :: d := fun b hb e => by
    rcases List.mem_cons.1 e with rfl | e
    · exact (h.ins i hi).1 hb
    · rcases List.mem_cons.1 e with rfl | e
      · exact (h.ins i hi).2 hb
      · exact ho i hi b (Lay.rbs hb) e
  refine ⟨fun j hj => ?_, fun j hj => ?_, fun j hj => ?_, fun j hj => ?_, h.uok, h.un, h.ins, h.sep, h.new, h.bel.trans (hp.below h.bel.size fun b hb => ?_), h.base⟩
  · by_cases e : j = i
    · subst e; rw [up_same]; exact hT
    · rw [up_ne _ _ e]; exact (h.at' j hj).past hp (hout j hj e _ (Y.tbs j)) (hout j hj e _ (Y.bbs j))
  · by_cases e : j = i
    · subst e; rw [up_same]; exact ok
    · rw [up_ne _ _ e]; exact h.ok j hj
  · by_cases e : j = i
    · subst e; rw [up_same]; exact hn
    · rw [up_ne _ _ e]; exact h.tn j hj
  · refine (h.wa j hj).past hp fun b hb => ?_
    have hb' : b ∈ Y.rb j := Lay.rmem (by rw [← h.un j hj]; exact hb)
    by_cases e : j = i
    · subst e; exact hins b hb'
    · exact hout j hj e b (Lay.rbs hb')
  · rcases List.mem_cons.1 hb with rfl | hb
    · exact h.new i hi _ (Y.tbs i)
    · rcases List.mem_cons.1 hb with rfl | hb
      · exact h.new i hi _ (Y.bbs i)
      · exact hd b hb
/-- a step of one of the document's tables -/
theorem Many.ref {u' : Tb} {k' : Nat} (h : Many a w0 Y t u k W) {i : Nat} (hi : i < Y.N) (hs : WStep (Y.F i) u' k' W W') (ok : u'.Ok) (hn : u'.n = Y.n i) : Many a w0 Y t (up u i u') (up k i k') W' ∧ Past (Y.rb i) W W' := by
  have hp := hs.past
  rw [hn] at hp
  have hr : ∀ b ∈ (Y.F i).d (Y.n i), b ∈ Y.rb i := fun b hb => Lay.rmem (.inl hb)
  have hout : ∀ j, j < Y.N → j ≠ i → ∀ b ∈ Y.bs j, b ∉ (Y.F i).d (Y.n i) := fun j hj hne b hb e => h.sep j i hj hi hne b hb (Lay.rbs (hr b e))
  refine ⟨⟨fun j hj => ?_, h.ok, h.tn, fun j hj => ?_, fun j hj => ?_, fun j hj => ?_, h.ins, h.sep, h.new, h.bel.trans (hp.below h.bel.size fun b hb => h.new i hi b (Lay.rbs (hr b hb))), h.base⟩, hp.mono hr⟩
  · by_cases e : j = i
    · subst e; exact (h.at' j hj).past hp (fun e => (h.ins j hj).1 (hr _ e)) (fun e => (h.ins j hj).2 (hr _ e))
    · exact (h.at' j hj).past hp (hout j hj e _ (Y.tbs j)) (hout j hj e _ (Y.bbs j))
  · by_cases e : j = i
    · subst e; rw [up_same, up_same]; exact hs.at'
    · rw [up_ne _ _ e, up_ne _ _ e]
      exact (h.wa j hj).past hp fun b hb => hout j hj e b (Lay.rbs (Lay.rmem (by rw [← h.un j hj]; exact hb)))
  · by_cases e : j = i
    · subst e; rw [up_same]; exact ok
    · rw [up_ne _ _ e]; exact h.uok j hj
  · by_cases e : j = i
    · subst e; rw [up_same]; exact hn
    · rw [up_ne _ _ e]; exact h.un j hj
/-- what a call of one of the tables asks, without a lens, with that of a meter's visits -/
theorem Many.rd (h : Many a w0 Y t u k W) {i : Nat} (hi : i < Y.N) : Ready a (Y.T i) (Y.B i) (t i) .nil Mt.zero W :=
  ⟨h.at' i hi, h.ok i hi, trivial, Apart.nil _ _, h.base.bits.below h.bel h.base.bits.lt, (fun b hb => by cases hb), Nat.le_trans h.base.far (h.new i hi _ (Y.tbs i)), Nat.le_trans h.base.far (h.new i hi _ (Y.bbs i)), h.base.six.below h.bel⟩
theorem Many.rdv (h : Many a w0 Y t u k W) {i : Nat} (hi : i < Y.N) {Bm : Nat} {m : Mt} (hm : MAt Bm 0 m W) (hb : w0.heap.size ≤ Bm) (ho : ∀ i, i < Y.N → Bm ∉ Y.bs i) : Ready a (Y.T i) (Y.B i) (t i) (.vi Bm 0) m W :=
  ⟨h.at' i hi, h.ok i hi, hm, (fun b hb' => by
    obtain rfl : b = Bm := by simpa [Ln.d] using hb'
    exact ⟨fun e => ho i hi (by rw [e]; exact Y.tbs i), fun e => ho i hi (by rw [e]; exact Y.bbs i)⟩), h.base.bits.below h.bel h.base.bits.lt, (fun b hb' => by
    obtain rfl : b = Bm := by simpa [Ln.d] using hb'
    exact Nat.le_trans h.base.far hb), Nat.le_trans h.base.far (h.new i hi _ (Y.tbs i)), Nat.le_trans h.base.far (h.new i hi _ (Y.bbs i)), h.base.six.below h.bel⟩
end
/-- one more table -/
def Lay.add (Y : Lay) (T B : Nat) (f : Rf) (n : Nat) : Lay := ⟨Y.N + 1, up Y.T Y.N T, up Y.B Y.N B, up Y.F Y.N f, up Y.n Y.N n⟩
def Lay.no : Lay := ⟨0, fun _ => 0, fun _ => 0, fun _ => ⟨0, 0, 0, fun _ => 0⟩, fun _ => 0⟩
theorem Lay.add_bs (Y : Lay) (T B : Nat) (f : Rf) (n : Nat) : (Y.add T B f n).bs Y.N = T :: B :: f.G :: f.d n := by unfold Lay.bs Lay.rb Lay.add; simp only [up_same]
theorem Lay.add_old (Y : Lay) (T B : Nat) (f : Rf) (n : Nat) {i : Nat} (hi : i < Y.N) : (Y.add T B f n).bs i = Y.bs i := by
  have e : i ≠ Y.N := by omega
  unfold Lay.bs Lay.rb Lay.add; simp only [up_ne _ _ e]
theorem Many.none {a : String → Addr} {w0 W : World} (t u : Nat → Tb) (k : Nat → Nat) (hb : Below w0.heap.size w0 W) (hw : Bq a w0) : Many a w0 .no t u k W :=
  ⟨fun i hi => absurd hi (Nat.not_lt_zero i), fun i hi => absurd hi (Nat.not_lt_zero i), fun i hi => absurd hi (Nat.not_lt_zero i), fun i hi => absurd hi (Nat.not_lt_zero i), fun i hi => absurd hi (Nat.not_lt_zero i), fun i hi => absurd hi (Nat.not_lt_zero i), fun i hi => absurd hi (Nat.not_lt_zero i), fun i j hi => absurd hi (Nat.not_lt_zero i), fun i hi => absurd hi (Nat.not_lt_zero i), hb, hw⟩
/-- two new tables, made behind all that is there: the real one, then the document's -/
theorem Many.add {a : String → Addr} {w0 : World} {Y : Lay} {t u : Nat → Tb} {k : Nat → Nat} {W W1 W' : World} (h : Many a w0 Y t u k W) {n : Nat} (hn : okN n) (hb1 : Below W.heap.size W W1) {T B : Nat} (hT : TAt T B (Tb.new n) W1) (h1 : W.heap.size ≤ T) (h2 : W.heap.size ≤ B)
    (hb2 : Below W1.heap.size W1 W') {f : Rf} (hf : WAt f (Tb.new n) 0 W') (hnew : ∀ b, b ∈ f.d n ∨ b = f.G → W1.heap.size ≤ b) : Many a w0 (Y.add T B f n) (up t Y.N (Tb.new n)) (up u Y.N (Tb.new n)) (up k Y.N 0) W' := by
  have hb := under.below_step hb1 hb2
  have l1 := hT.lt
  have l2 := hT.lb
  have z1 := hb1.size
  have z0 := h.bel.size
  have hr : ∀ b ∈ f.G :: f.d n, W1.heap.size ≤ b := fun b hb' => by
    rcases List.mem_cons.1 hb' with rfl | hb'
    · exact hnew _ (.inr rfl)
    · exact hnew _ (.inl hb')
  have hall : ∀ b ∈ T :: B :: f.G :: f.d n, W.heap.size ≤ b := fun b hb' => by
    rcases List.mem_cons.1 hb' with rfl | hb'
    · exact h1
    · rcases List.mem_cons.1 hb' with rfl | hb'
      · exact h2
      · exact Nat.le_trans z1 (hr b hb')
  have cs : ∀ i, i < Y.N + 1 → i < Y.N ∨ i = Y.N := fun i hi => by omega
  have h' := h.read hb
  have hN : (Y.add T B f n).N = Y.N + 1 := rfl
  have new_lt : ∀ i, i < Y.N → ∀ b ∈ Y.bs i, b ∉ T :: B :: f.G :: f.d n := fun i hi b hb' e => by
    have := h.lts hi hb'; have := hall b e; omega
  refine ⟨fun i hi => ?_, fun i hi => ?_, fun i hi => ?_, fun i hi => ?_, fun i hi => ?_, fun i hi => ?_, fun i hi => ?_, fun i j hi hj hne => ?_, fun i hi => ?_, h'.bel, h.base⟩
  · rcases cs i hi with hi | rfl
    · have e : i ≠ Y.N := by omega
      simp only [Lay.add, up_ne _ _ e]; exact h'.at' i hi
    · simp only [Lay.add, up_same]; exact hT.below hb2
  · rcases cs i hi with hi | rfl
    · rw [up_ne _ _ (by omega)]; exact h.ok i hi
    · rw [up_same]; exact Tb.Ok.new hn
  · rcases cs i hi with hi | rfl
    · have e : i ≠ Y.N := by omega
      simp only [Lay.add, up_ne _ _ e]; exact h.tn i hi
    · simp only [Lay.add, up_same]; rfl
  · rcases cs i hi with hi | rfl
    · have e : i ≠ Y.N := by omega
      simp only [Lay.add, up_ne _ _ e]; exact h'.wa i hi
    · simp only [Lay.add, up_same]; exact hf
  · rcases cs i hi with hi | rfl
    · rw [up_ne _ _ (by omega)]; exact h.uok i hi
    · rw [up_same]; exact Tb.Ok.new hn
  · rcases cs i hi with hi | rfl
    · have e : i ≠ Y.N := by omega
      simp only [Lay.add, up_ne _ _ e]; exact h.un i hi
    · simp only [Lay.add, up_same]; rfl
  · rcases cs i hi with hi | rfl
    · have e : i ≠ Y.N := by omega
      have := h.ins i hi
      unfold Lay.rb Lay.add; simp only [up_ne _ _ e]; exact this
    · unfold Lay.rb Lay.add; simp only [up_same]
      exact ⟨fun e => by have := hr _ e; omega, fun e => by have := hr _ e; omega⟩
  · rcases cs i hi with hi | rfl
    · rw [Lay.add_old _ _ _ _ _ hi]
      rcases cs j hj with hj | rfl
      · rw [Lay.add_old _ _ _ _ _ hj]; exact h.sep i j hi hj hne
      · rw [Lay.add_bs]; exact new_lt i hi
    · rw [Lay.add_bs]
      rcases cs j hj with hj | rfl
      · rw [Lay.add_old _ _ _ _ _ hj]; exact fun b hb' e => new_lt j hj b e hb'
      · exact absurd rfl hne
  · rcases cs i hi with hi | rfl
    · rw [Lay.add_old _ _ _ _ _ hi]; exact h.new i hi
    · rw [Lay.add_bs]; exact fun b hb' => Nat.le_trans z0 (hall b hb')

/-! ### calls -/
section
variable {a : String → Addr} {w0 : World} {Y : Lay} {t u : Nat → Tb} {k : Nat → Nat} {W : World}
theorem Many.tl {L : Ln} {m' : Mt} {t' : Tb} {W' : World} (h : Many a w0 Y t u k W) {i : Nat} (hi : i < Y.N) (hs : TL (Y.T i) (Y.B i) t' L m' W W') (ok : t'.Ok) (hn : t'.n = (t i).n) (hd : ∀ b ∈ L.d, w0.heap.size ≤ b) (ho : ∀ j, j < Y.N → ∀ b ∈ Y.bs j, b ∉ L.d) : Many a w0 Y (up t i t') u k W' ∧ Past (Y.T i :: Y.B i :: L.d) W W' :=
  have e : [Y.T i, Y.B i] ++ L.d = Y.T i :: Y.B i :: L.d := rfl
  have hp : Past (Y.T i :: Y.B i :: L.d) W W' := by rw [← e]; exact hs.ln.past
  ⟨h.real hi hp hs.at' ok (hn.trans (h.tn i hi)) hd ho, hp⟩
theorem seeN (m : Mt) : ∀ k, Ln.nil.see m k = m
  | 0 => rfl
  | k + 1 => by rw [Ln.see_succ, seeN m k]; rfl
theorem Many.put (h : Many a w0 Y t u k W) {i : Nat} (hi : i < Y.N) (key hs v : Nat) (hk : key < 18446744073709551616) (hh : hs < 18446744073709551616) (hv : v < 18446744073709551616) :
    Calls Tryz.prog 41 #[.pointer (some ⟨Y.T i, 0, Option.none⟩), .agg #[.pointer Option.none], group.entV key v hs] W fun e w' => e = .returned (.tuple #[.bool (putB' (t i) key hs), errAt a (putE' (t i) key hs)]) ∧ Many a w0 Y (up t i ((t i).puts key hs v)) u k w' ∧ Past [Y.T i, Y.B i] W w' :=
  (put_tab (h.rd hi) key hs v hk hh hv).mono fun e w' ⟨he, hs'⟩ => ⟨he, h.tl hi hs' ((h.ok i hi).puts hk hh hv) (puts_n ..) (fun b hb => by cases hb) (fun j hj b hb e => by cases e)⟩
theorem Many.rput (h : Many a w0 Y t u k W) {i : Nat} (hi : i < Y.N) (key hs v : Nat) (hk : key < 18446744073709551616) (hh : hs < 18446744073709551616) (hv : v < 18446744073709551616) (hK : k i + 64 < 9223372036854775807) :
    Calls Tryz.prog 47 #[.pointer (some ⟨(Y.F i).R, 0, Option.none⟩), group.entV key v hs] W fun e w' => e = .returned (.tuple #[.bool (putB' (u i) key hs), .int .i64 (putE' (u i) key hs : Nat)]) ∧ Many a w0 Y t (up u i ((u i).puts key hs v)) (up k i (k i + looks (u i) key hs)) w' ∧ Past (Y.rb i) W w' :=
  (rtput_any (Y.F i) (u i) (h.uok i hi) (k i) key v hs hK hh W (h.wa i hi)).mono fun e w' ⟨he, hs'⟩ => ⟨he, h.ref hi hs' ((h.uok i hi).puts hk hh hv) ((puts_n ..).trans (h.un i hi))⟩
theorem Many.find (h : Many a w0 Y t u k W) {i : Nat} (hi : i < Y.N) (key hs : Nat) (hk : key < 18446744073709551616) (hh : hs < 18446744073709551616) :
    Calls Tryz.prog 60 #[.pointer (some ⟨Y.T i, 0, Option.none⟩), .agg #[.pointer Option.none], .int .u64 key, .int .u64 hs] W fun e w' => e = .returned (.tuple #[group.entV (entOf (t i) key hs).key (entOf (t i) key hs).val (entOf (t i) key hs).hash, .bool (isThere (t i) key hs)]) ∧ Below W.heap.size W w' :=
  (find_tab (h.rd hi) key hs hk hh).mono fun e w' ⟨he, hs'⟩ => ⟨he, Past.nil hs'.past⟩
theorem Many.rfind (h : Many a w0 Y t u k W) {i : Nat} (hi : i < Y.N) (key hs : Nat) (hh : hs < 18446744073709551616) (hK : k i + 64 < 9223372036854775807) :
    Calls Tryz.prog 61 #[.pointer (some ⟨(Y.F i).R, 0, Option.none⟩), .int .u64 key, .int .u64 hs] W fun e w' => e = .returned (.tuple #[group.entV (entOf (u i) key hs).key (entOf (u i) key hs).val (entOf (u i) key hs).hash, .bool (isThere (u i) key hs)]) ∧ Many a w0 Y t u (up k i (k i + looks (u i) key hs)) w' ∧ Past (Y.rb i) W w' :=
  (rtfind_any (Y.F i) (u i) (h.uok i hi).n (k i) key hs hK hh W (h.wa i hi)).mono fun e w' ⟨he, hs'⟩ => by
    obtain ⟨h1, h2⟩ := h.ref hi hs' (h.uok i hi) (h.un i hi)
    rw [up_self] at h1
    exact ⟨he, h1, h2⟩
theorem Many.rall (h : Many a w0 Y t u k W) {b : Nat} (hb : b ∈ Y.rall) : w0.heap.size ≤ b ∧ b < W.heap.size := by
  obtain ⟨i, hi, hb⟩ := List.mem_flatMap.1 hb
  exact ⟨h.new i (List.mem_range.1 hi) b (Lay.rbs hb), h.lts (List.mem_range.1 hi) (Lay.rbs hb)⟩
theorem Many.tall (h : Many a w0 Y t u k W) {b : Nat} (hb : b ∈ Y.tall) : w0.heap.size ≤ b ∧ b < W.heap.size := by
  obtain ⟨i, hi, hb⟩ := List.mem_flatMap.1 hb
  have hb' : b ∈ Y.bs i := by
    rcases List.mem_cons.1 hb with rfl | hb
    · exact Y.tbs i
    · obtain rfl : b = Y.B i := by simpa using hb
      exact Y.bbs i
  exact ⟨h.new i (List.mem_range.1 hi) b hb', h.lts (List.mem_range.1 hi) hb'⟩
theorem Many.setK (h : Many a w0 Y t u k W) {i : Nat} (hi : i < Y.N) (c : Nat) : Many a w0 Y t u (up k i c) (W.setCell ⟨(Y.F i).R, 1, Option.none⟩ (.int .i64 (c : Nat))) ∧ Past (Y.rb i) W (W.setCell ⟨(Y.F i).R, 1, Option.none⟩ (.int .i64 (c : Nat))) := by
  obtain ⟨h1, h2⟩ := h.ref hi ((h.wa i hi).setK c) (h.uok i hi) (h.un i hi)
  rw [up_self] at h1
  exact ⟨h1, h2⟩
end
end Go.Proofs.YteedbnoefnlidaaGreatDoor.table
