/- dual: begin: the new tables are taken, and the evacuation begins. -/
import Derived.Test.YteedbnoefnlidaaGreatDoorDualUse
import Derived.Test.YteedbnoefnlidaaGreatDoorTabRef
import Derived.Maps.OwnIn
import Derived.ArgAppend
import Derived.BigQuiet
import Derived.LoopTactic
namespace Go.Proofs.YteedbnoefnlidaaGreatDoor.dual
open Go.ChangeShapes Go.WideShapes Go.ChangeAt Go.RowKit Go.Shelf swar under trap meter group probe lens tail call table evac
attribute [local go_sem] Oper.semAt_some stage.pureUpon move.stepUpon
set_option linter.unusedSimpArgs false
set_option linter.unusedVariables false

theorem must_tab (v : Value) (w : World) : Calls Tryz.prog 157 #[v, .nilIface] w fun e w' => e = .returned v ∧ w = w' := by
  go_enter Tryz.func157, Tryz.ntmps157
  go_wp2_with (go_at_call 149; refine (raise_nil _).mono ?_; rintro e w1 ⟨rfl, rfl⟩)
  go_ret
  exact ⟨rfl, rfl⟩
theorem must_ev (v : Value) (w : World) : Calls Tryz.prog 159 #[v, .nilIface] w fun e w' => e = .returned v ∧ w = w' := by
  go_enter Tryz.func159, Tryz.ntmps159
  go_wp2_with (go_at_call 149; refine (raise_nil _).mono ?_; rintro e w1 ⟨rfl, rfl⟩)
  go_ret
  exact ⟨rfl, rfl⟩
/-- the new tables, as a list's cells -/
def newsV (Y : Lay) (j : Nat) : List Value := (List.range j).map fun i => .pointer (some ⟨Y.T (i + 1), 0, none⟩)
theorem newsV_length (Y : Lay) (j : Nat) : (newsV Y j).length = j := by simp [newsV]
theorem newsV_succ (Y : Lay) (j : Nat) : newsV Y (j + 1) = newsV Y j ++ [.pointer (some ⟨Y.T (j + 1), 0, none⟩)] := by simp [newsV, List.range_succ]
/-- while the new tables are taken: jt of them are; c: what the box says of them; v: their list -/
structure Bgn (a : String → Addr) (w0 w : World) (Y : Lay) (D : Nat) (Q : Nat → Nat) (n1 d : Nat) (dp : Int) (GB cB GT cT dn : Nat) (t : Nat → Tb) (jt ju : Nat) (c v : Value) (W : World) : Prop where
  pl : Pl w0 Y D Q n1 d dp
  row : DRow D (Y.n 0 + (Y.N - 1) * n1) dn dp (.slice (some ⟨GB, 0, none⟩) (Y.N - 1) cB) (.slice (some ⟨GT, 0, none⟩) 1 cT) none c W
  gb : ∀ j, 1 ≤ j → j < Y.N → W.cell? ⟨GB, j - 1, none⟩ = some (.pointer (some ⟨Q j, 0, none⟩))
  gt : W.cell? ⟨GT, 0, none⟩ = some (.pointer (some ⟨Y.T 0, 0, none⟩))
  re : Real a w0 (cut Y false) t W
  bx : ∀ j, 1 ≤ j → j < Y.N → build.BBox (Q j) n1 n1 (if j ≤ jt then none else some ⟨Y.T j, 0, none⟩) W
  tb : ∀ j, 1 ≤ j → j < Y.N → PAt (Y.T j) (Y.B j) n1 n1 W
  un : W.ownsRow w.heap.size 77 1 v ju (newsV Y ju)
  nGB : GB ∉ Y.tall ∧ GB ≠ D ∧ ∀ j, 1 ≤ j → j < Y.N → Q j ≠ GB
  nGT : GT ∉ Y.tall ∧ GT ≠ D ∧ ∀ j, 1 ≤ j → j < Y.N → Q j ≠ GT
  tn : ∀ j, 1 ≤ j → t j = Tb.new n1
  hw : w0.heap.size ≤ w.heap.size
  oD : D < w.heap.size
  oGB : GB < w.heap.size
  oGT : GT < w.heap.size
  oQ : ∀ j, 1 ≤ j → j < Y.N → Q j < w.heap.size
  ot : ∀ b ∈ Y.tall, b < w.heap.size
  past : Past [D, Q 1, Q (Y.N - 1)] w W
section
variable {a : String → Addr} {w0 w : World} {Y : Lay} {D : Nat} {Q : Nat → Nat} {n1 d : Nat} {dp : Int} {GB cB GT cT dn : Nat} {t : Nat → Tb} {jt ju : Nat} {c v : Value} {W W' : World}
/-- a step that writes what is new alone -/
theorem Bgn.aside (h : Bgn a w0 w Y D Q n1 d dp GB cB GT cT dn t jt ju c v W) {l : List Nat} (hp : Past l W W') (hl : ∀ b ∈ l, w.heap.size ≤ b) {ju' : Nat} {v' : Value} (hu : W'.ownsRow w.heap.size 77 1 v' ju' (newsV Y ju')) : Bgn a w0 w Y D Q n1 d dp GB cB GT cT dn t jt ju' c v' W' := by
  have no : ∀ x, x < w.heap.size → x ∉ l := fun x hx e => by have := hl x e; omega
  refine ⟨h.pl, h.row.past hp (no _ h.oD), fun j h1 hj => hp.cell (h.gb j h1 hj) (no _ h.oGB), hp.cell h.gt (no _ h.oGT), h.re.past hp (fun b hb => ⟨Nat.le_trans h.hw (hl b hb), fun e => no _ (h.ot b (cut_tall h.pl.N e)) hb⟩), fun j h1 hj => (h.bx j h1 hj).past hp (no _ (h.oQ j h1 hj)), fun j h1 hj => (h.tb j h1 hj).past hp (no _ (h.ot _ (h.pl.tin hj).1)) (no _ (h.ot _ (h.pl.tin hj).2)), hu, h.nGB, h.nGT, h.tn, h.hw, h.oD, h.oGB, h.oGT, h.oQ, h.ot, ?_⟩
  exact ⟨hp.os.trans h.past.os, hp.tape.trans h.past.tape, hp.output.trans h.past.output, Nat.le_trans h.past.size hp.size, fun k hk hd => (hp.block k (Nat.lt_of_lt_of_le hk h.past.size) (no k hk)).trans (h.past.block k hk hd)⟩
theorem Bgn.read (h : Bgn a w0 w Y D Q n1 d dp GB cB GT cT dn t jt ju c v W) (hb : Below W.heap.size W W') : Bgn a w0 w Y D Q n1 d dp GB cB GT cT dn t jt ju c v W' :=
  h.aside (Past.of (d := []) hb) (fun b hb => by cases hb) (row_below h.un hb)
theorem Bgn.grow (h : Bgn a w0 w Y D Q n1 d dp GB cB GT cT dn t jt ju c v W) {v' : Value} (hg : W.grownBy W' v.ownBlock) (hu : W'.ownsRow w.heap.size 77 1 v' (ju + 1) (newsV Y ju ++ [.pointer (some ⟨Y.T (ju + 1), 0, none⟩)])) : Bgn a w0 w Y D Q n1 d dp GB cB GT cT dn t jt (ju + 1) c v' W' := by
  rw [← newsV_succ] at hu
  refine h.aside (past_grown hg) (fun b hb => ?_) hu
  cases e : v.ownBlock with
  | none => rw [e] at hb; cases hb
  | some g =>
    rw [e] at hb
    obtain rfl : b = g := by simpa using hb
    exact (row_lt h.un e).1
/-- a new table is taken -/
theorem Bgn.take (h : Bgn a w0 w Y D Q n1 d dp GB cB GT cT dn t jt ju c v W) (hj : jt + 1 < Y.N) (q : Nat) : Bgn a w0 w Y D Q n1 d dp GB cB GT cT dn t (jt + 1) ju c v ((W.drewN q).setCell ⟨Q (jt + 1), 2, none⟩ (.pointer none)) := by
  have h' := h.read (below_drewN' W q)
  have hp : Past [Q (jt + 1)] (W.drewN q) ((W.drewN q).setCell ⟨Q (jt + 1), 2, none⟩ (.pointer none)) := (Past.refl _ _).store (.inl (by simp)) _
  have q1 : 1 ≤ jt + 1 := by omega
  have nQ := h.pl.nQ (jt + 1) q1 hj
  have nD := h.pl.qD (jt + 1) q1 hj
  have lQ := h.oQ (jt + 1) q1 hj
  have inQ : Q (jt + 1) ∈ [D, Q 1, Q (Y.N - 1)] := by
    have := h.pl.N
    obtain e | e : jt + 1 = 1 ∨ jt + 1 = Y.N - 1 := by omega
    · rw [e]; simp
    · rw [e]; simp
  refine ⟨h.pl, h'.row.past hp (by simpa using Ne.symm nD), fun j h1 hj' => hp.cell (h'.gb j h1 hj') (by simpa using Ne.symm (h.nGB.2.2 (jt + 1) q1 hj)), hp.cell h'.gt (by simpa using Ne.symm (h.nGT.2.2 (jt + 1) q1 hj)), h'.re.past hp (fun b hb => ?_), fun j h1 hj' => ?_, fun j h1 hj' => (h'.tb j h1 hj').past hp (by simp only [List.mem_singleton]; exact fun e => nQ (e ▸ (h.pl.tin hj').1)) (by simp only [List.mem_singleton]; exact fun e => nQ (e ▸ (h.pl.tin hj').2)), row_past2 h'.un hp fun g hg e => ?_, h.nGB, h.nGT, h.tn, h.hw, h.oD, h.oGB, h.oGT, h.oQ, h.ot, h'.past.store (.inl inQ) _⟩
  · obtain rfl : b = Q (jt + 1) := by simpa using hb
    exact ⟨h.pl.hQ _ q1 hj, fun e => nQ (cut_tall h.pl.N e)⟩
  · by_cases e : j = jt + 1
    · subst e
      rw [if_pos (Nat.le_refl _)]
      exact (h'.bx _ h1 hj').set2 none
    · have hb := (h'.bx j h1 hj').past hp (by simpa using h.pl.qq j (jt + 1) h1 hj' q1 hj e)
      by_cases e2 : j ≤ jt
      · rw [if_pos e2] at hb; rw [if_pos (by omega)]; exact hb
      · rw [if_neg e2] at hb; rw [if_neg (by omega)]; exact hb
  · obtain rfl : g = Q (jt + 1) := by simpa using e
    have := (row_lt h.un hg).1
    omega
/-- the list is kept in the box -/
theorem Bgn.store (h : Bgn a w0 w Y D Q n1 d dp GB cB GT cT dn t jt ju c v W) : Bgn a w0 w Y D Q n1 d dp GB cB GT cT dn t jt ju v v (W.setCell ⟨D, 6, none⟩ v) := by
  have hp : Past [D] W (W.setCell ⟨D, 6, none⟩ v) := (Past.refl _ _).store (.inl (by simp)) _
  have nt : ∀ b ∈ Y.tall, b ∉ [D] := fun b hb e => by
    obtain rfl : b = D := by simpa using e
    exact h.pl.nD hb
  refine ⟨h.pl, h.row.set6 v, fun j h1 hj' => hp.cell (h.gb j h1 hj') (by simpa using h.nGB.2.1), hp.cell h.gt (by simpa using h.nGT.2.1), h.re.past hp (fun b hb => ?_), fun j h1 hj' => (h.bx j h1 hj').past hp (by simpa using h.pl.qD j h1 hj'), fun j h1 hj' => (h.tb j h1 hj').past hp (nt _ (h.pl.tin hj').1) (nt _ (h.pl.tin hj').2), row_past2 h.un hp fun g hg e => ?_, h.nGB, h.nGT, h.tn, h.hw, h.oD, h.oGB, h.oGT, h.oQ, h.ot, h.past.store (.inl (by simp)) _⟩
  · obtain rfl : b = D := by simpa using hb
    exact ⟨h.pl.hD, fun e => h.pl.nD (cut_tall h.pl.N e)⟩
  · obtain rfl : g = D := by simpa using e
    have := (row_lt h.un hg).1
    have := h.oD
    omega
end
/-- behind evac.New -/
structure Bg2 (a : String → Addr) (w0 w : World) (Y : Lay) (D : Nat) (Q : Nat → Nat) (n1 d : Nat) (dp : Int) (GT dn : Nat) (t : Nat → Tb) (nb V g cap : Nat) (pm : Option Addr) (W : World) : Prop where
  pl : Pl w0 Y D Q n1 d dp
  row : ∃ sB, DRow D (Y.n 0 + (Y.N - 1) * n1) dn dp sB (.slice (some ⟨GT, 0, none⟩) 1 1) pm (.slice (some ⟨g, 0, none⟩) nb cap) W
  gt : W.cell? ⟨GT, 0, none⟩ = some (.pointer (some ⟨Y.T 0, 0, none⟩))
  gu : ∀ j, j < nb → W.cell? ⟨g, j, none⟩ = some (.pointer (some ⟨Y.T (j + 1), 0, none⟩))
  re : Real a w0 (cut Y false) t W
  tb : ∀ j, 1 ≤ j → j < Y.N → PAt (Y.T j) (Y.B j) n1 n1 W
  ev : EvAt V Y d 0 W
  tn : ∀ j, 1 ≤ j → t j = Tb.new n1
  hw : w0.heap.size ≤ w.heap.size
  oD : D < w.heap.size
  oGT : GT < w.heap.size
  ot : ∀ b ∈ Y.tall, b < w.heap.size
  hg : w.heap.size ≤ g
  hV : g < V
  gD : GT ≠ D
  past : Past [D, Q 1, Q (Y.N - 1)] w W
section
variable {a : String → Addr} {w0 w : World} {Y : Lay} {D : Nat} {Q : Nat → Nat} {n1 d : Nat} {dp : Int} {GB cB GT dn : Nat} {t : Nat → Tb} {nb V g cap : Nat} {pm : Option Addr} {W W' : World}
theorem Bg2.read (h : Bg2 a w0 w Y D Q n1 d dp GT dn t nb V g cap pm W) (hb : Below W.heap.size W W') : Bg2 a w0 w Y D Q n1 d dp GT dn t nb V g cap pm W' := by
  obtain ⟨sB, hr⟩ := h.row
  exact ⟨h.pl, ⟨sB, hr.keep hb⟩, keepc hb h.gt, fun j hj => keepc hb (h.gu j hj), h.re.read hb, fun j h1 hj => (h.tb j h1 hj).below hb, h.ev.keep hb, h.tn, h.hw, h.oD, h.oGT, h.ot, h.hg, h.hV, h.gD, h.past.trans (Past.of hb)⟩
theorem Bgn.two {cb : Nat} (h : Bgn a w0 w Y D Q n1 d dp GB cB GT 1 dn t nb nb (.slice (some ⟨g, 0, none⟩) nb cap) (.slice (some ⟨g, 0, none⟩) nb cap) W) (hE : EvAt V Y d 0 W') (hV : W.heap.size ≤ V) (hb : Below W.heap.size W W') : Bg2 a w0 w Y D Q n1 d dp GT dn t nb V g cap none W' := by
  have hg := row_lt h.un (g := g) rfl
  have hc : ∀ j, j < nb → W.cell? ⟨g, j, none⟩ = some (.pointer (some ⟨Y.T (j + 1), 0, none⟩)) := fun j hj => by
    have := h.un.cells (g := g) rfl j (.pointer (some ⟨Y.T (j + 1), 0, none⟩)) (by simp [newsV, hj])
    rwa [add_at, Nat.zero_add] at this
  exact ⟨h.pl, ⟨_, h.row.keep hb⟩, keepc hb h.gt, fun j hj => keepc hb (hc j hj), h.re.read hb, fun j h1 hj => (h.tb j h1 hj).below hb, hE, h.tn, h.hw, h.oD, h.oGT, h.ot, hg.1, by omega, h.nGT.2.1, h.past.trans (Past.of hb)⟩
theorem Bg2.store (h : Bg2 a w0 w Y D Q n1 d dp GT dn t nb V g cap none W) : Bg2 a w0 w Y D Q n1 d dp GT dn t nb V g cap (some ⟨V, 0, none⟩) (W.setCell ⟨D, 5, none⟩ (.pointer (some ⟨V, 0, none⟩))) := by
  obtain ⟨sB, hr⟩ := h.row
  have hp : Past [D] W (W.setCell ⟨D, 5, none⟩ (.pointer (some ⟨V, 0, none⟩))) := (Past.refl _ _).store (.inl (by simp)) _
  have nt : ∀ b ∈ Y.tall, b ∉ [D] := fun b hb e => by
    obtain rfl : b = D := by simpa using e
    exact h.pl.nD hb
  have l1 := h.oD
  have l2 := h.hg
  have l3 := h.hV
  refine ⟨h.pl, ⟨sB, hr.set5 _⟩, hp.cell h.gt (by simpa using h.gD), fun j hj => hp.cell (h.gu j hj) (by simp only [List.mem_singleton]; omega), h.re.past hp (fun b hb => ?_), fun j h1 hj => (h.tb j h1 hj).past hp (nt _ (h.pl.tin hj).1) (nt _ (h.pl.tin hj).2), h.ev.past hp (by simp only [List.mem_singleton]; omega), h.tn, h.hw, h.oD, h.oGT, h.ot, h.hg, h.hV, h.gD, h.past.trans (hp.mono (by simp))⟩
  obtain rfl : b = D := by simpa using hb
  exact ⟨h.pl.hD, fun e => h.pl.nD (cut_tall h.pl.N e)⟩
/-- the old table's list and the new tables -/
theorem Bg2.mov {v' : Value} (h : Bg2 a w0 w Y D Q n1 d dp GT dn t nb V g cap (some ⟨V, 0, none⟩) W) (hnb : Y.N = nb + 1) (hg : W.grownBy W' none) (hu : W'.ownsRow W.heap.size 77 1 v' (1 + nb) ([.pointer (some ⟨Y.T 0, 0, none⟩)] ++ newsV Y nb)) :
    ∃ GT' cT', v' = .slice (some ⟨GT', 0, none⟩) (1 + nb) cT' ∧ W.heap.size ≤ GT' ∧ w.heap.size ≤ GT' ∧ DRow D (Y.n 0 + (Y.N - 1) * n1) dn dp (h.row.choose) (.slice (some ⟨GT, 0, none⟩) 1 1) (some ⟨V, 0, none⟩) (.slice (some ⟨g, 0, none⟩) nb cap) W' ∧ Mov a w0 Y D Q n1 d dp GT' cT' g cap V 0 dn false t (W'.setCell ⟨D, 4, none⟩ (.slice (some ⟨GT', 0, none⟩) (1 + nb) cT')) ∧ Past [D, Q 1, Q (Y.N - 1)] w (W'.setCell ⟨D, 4, none⟩ (.slice (some ⟨GT', 0, none⟩) (1 + nb) cT')) := by
  have hb : Below W.heap.size W W' := ⟨hg.os, hg.tape, hg.output, hg.size, fun k hk => hg.block k hk (by simp)⟩
  obtain ⟨GT', cT', rfl, _, _⟩ := hu.form (by omega)
  have hl := row_lt hu (g := GT') rfl
  have h2 := h.read hb
  have hr := h.row.choose_spec.keep hb
  have zs := h.past.size
  have l1 := h.oD
  have l2 := h.hg
  have l3 := h.hV
  have lV := h.ev.lt
  have lt := h.ot
  have hp : Past [D] W' (W'.setCell ⟨D, 4, none⟩ (.slice (some ⟨GT', 0, none⟩) (1 + nb) cT')) := (Past.refl _ _).store (.inl (by simp)) _
  have nt : ∀ b ∈ Y.tall, b ∉ [D] := fun b hb e => by
    obtain rfl : b = D := by simpa using e
    exact h.pl.nD hb
  have hc : ∀ j, j < Y.N → W'.cell? ⟨GT', j, none⟩ = some (.pointer (some ⟨Y.T j, 0, none⟩)) := fun j hj => by
    have := hu.cells (g := GT') rfl j (.pointer (some ⟨Y.T j, 0, none⟩)) (by
      rcases Nat.eq_zero_or_pos j with rfl | h0
      · rfl
      · rw [List.getElem?_append_right (by simp; omega)]
        simp only [List.length_singleton]
        simp [newsV, show j - 1 < nb by omega, show j - 1 + 1 = j by omega])
    rwa [add_at, Nat.zero_add] at this
  refine ⟨GT', cT', rfl, hl.1, by omega, hr, ⟨h.pl, ⟨h.row.choose, ?_⟩, fun j hj => hp.cell (hc j hj) (by simp only [List.mem_singleton]; omega), fun j h1 hj => ?_, ?_, h2.ev.past hp (by simp only [List.mem_singleton]; omega), by have := h.hw; omega, ⟨fun e => by have := lt _ e; omega, by omega⟩, ⟨fun e => by have := lt _ e; omega, by omega, by omega⟩, ⟨fun e => by have := lt _ e; omega, by omega, by omega⟩⟩, h2.past.trans (hp.mono (by simp))⟩
  · have := hr.set4 (.slice (some ⟨GT', 0, none⟩) (1 + nb) cT')
    have key : ∀ x y : Nat, x = 1 + nb → y = nb → DRow D (Y.n 0 + (Y.N - 1) * n1) dn dp h.row.choose (.slice (some ⟨GT', 0, none⟩) x cT') (some ⟨V, 0, none⟩) (.slice (some ⟨g, 0, none⟩) y cap) (W'.setCell ⟨D, 4, none⟩ (.slice (some ⟨GT', 0, none⟩) (1 + nb) cT')) := by
      rintro _ _ rfl rfl
      exact this
    exact key _ _ (by omega) (by omega)
  · have := hp.cell (h2.gu (j - 1) (by omega)) (by simp only [List.mem_singleton]; omega)
    rwa [show j - 1 + 1 = j by omega] at this
  · have r0 := h2.re.past hp (fun b hb => by
      obtain rfl : b = D := by simpa using hb
      exact ⟨h.pl.hD, fun e => h.pl.nD (cut_tall h.pl.N e)⟩)
    refine ⟨fun i hi => ?_, fun i hi => ?_, fun i hi => ?_, h.pl.sep, h.pl.ht, r0.bel, r0.base⟩
    · rcases Nat.eq_zero_or_pos i with rfl | h0
      · exact r0.at' 0 Nat.one_pos
      · rw [h.tn i h0]
        exact ((h2.tb i h0 hi).past hp (nt _ (h.pl.tin hi).1) (nt _ (h.pl.tin hi).2)).all
    · rcases Nat.eq_zero_or_pos i with rfl | h0
      · exact r0.ok 0 Nat.one_pos
      · rw [h.tn i h0]; exact Tb.Ok.new h.pl.o1
    · rcases Nat.eq_zero_or_pos i with rfl | h0
      · exact r0.tn 0 Nat.one_pos
      · rw [h.tn i h0, h.pl.e1 i h0 hi]; rfl
/-- evac.New, of the old table and the new ones -/
theorem ev_new (h : Bgn a w0 w Y D Q n1 d dp GB cB GT 1 dn t nb nb (.slice (some ⟨g, 0, none⟩) nb cap) (.slice (some ⟨g, 0, none⟩) nb cap) W) (hnb : Y.N = nb + 1) :
    Calls Tryz.prog 160 #[.pointer (some ⟨Y.T 0, 0, none⟩), .int .i64 dp, .slice (some ⟨g, 0, none⟩) nb cap] W fun e w' => ∃ V, e = .returned (.tuple #[.pointer (some ⟨V, 0, none⟩), .nilIface]) ∧ EvAt V Y d 0 w' ∧ W.heap.size ≤ V ∧ Below W.heap.size W w' := by
  have hT := h.re.at' 0 Nat.one_pos
  have hn : (t 0).n = Y.n 0 := h.re.tn 0 Nat.one_pos
  have hc : ∀ j, j < nb → W.cell? ⟨g, j, none⟩ = some (.pointer (some ⟨Y.T (j + 1), 0, none⟩)) := fun j hj => by
    have := h.un.cells (g := g) rfl j (.pointer (some ⟨Y.T (j + 1), 0, none⟩)) (by simp [newsV, hj])
    rwa [add_at, Nat.zero_add] at this
  rcases h.pl.N with hN | hN
  · obtain rfl : nb = 1 := by omega
    refine (new_one (Y.T 0) (Y.B 0) (t 0) dp g 0 ⟨Y.T 1, 0, none⟩ cap W hT (hc 0 (by decide))).mono fun e w' ⟨V, he, hr, hV, hb⟩ => ⟨V, he, ⟨?_⟩, hV, hb⟩
    rw [hr, hn, hN]; rfl
  · obtain rfl : nb = 2 := by omega
    have e := h.pl.dp hN
    rw [e]
    refine (new_two (Y.T 0) (Y.B 0) (t 0) d h.pl.ld g 0 ⟨Y.T 1, 0, none⟩ ⟨Y.T 2, 0, none⟩ cap W hT (hc 0 (by decide)) (hc 1 (by decide))).mono fun e w' ⟨V, he, hr, hV, hb⟩ => ⟨V, he, ⟨?_⟩, hV, hb⟩
    rw [hr, hn, hN]; rfl
end
set_option maxRecDepth 20000 in
set_option maxHeartbeats 2000000 in
theorem begin_any (a : String → Addr) (w0 w : World) (Y : Lay) (D : Nat) (Q : Nat → Nat) (n1 d : Nat) (dp : Int) (GB cB GT dn : Nat) (t : Nat → Tb) (nb : Nat) (hnb : Y.N = nb + 1) (HI : Hid (Bgn a w0 w Y D Q n1 d dp GB cB GT 1 dn t 0 0 (.slice none 0 0) (.slice none 0 0) w)) :
    Calls Tryz.prog 113 #[.pointer (some ⟨D, 0, none⟩)] w fun e w' => e = .returned (.tuple #[]) ∧ ∃ V GT' cT' GU cU, Mov a w0 Y D Q n1 d dp GT' cT' GU cU V 0 dn false t w' ∧ Past [D, Q 1, Q (Y.N - 1)] w w' ∧ w.heap.size ≤ V ∧ w.heap.size ≤ GT' ∧ w.heap.size ≤ GU := by
  obtain ⟨i0, hi0, hq0, hq1, hq2⟩ := info_parts infoTab
  have hnb2 : 1 ≤ nb ∧ nb ≤ 2 := by have := HI.out.pl.N; omega
  have h3 : w.cell? ⟨D, 3, none⟩ = some (.slice (some ⟨GB, 0, none⟩) nb cB) := by have := HI.out.row.c3; rwa [hnb] at this
  go_enter Tryz.func113, Tryz.ntmps113
  go_wp2_with (fail)
  go_loopw [9] (fun i wr => ∃ j : Nat, j ≤ nb ∧ i = .int .i64 j ∧ Hid (∃ v, Bgn a w0 w Y D Q n1 d dp GB cB GT 1 dn t j j v v wr)) (fun i _ => nb - (intOf i).toNat)
  case atStart => exact ⟨0, by omega, rfl, Lib.hid ⟨_, HI.out⟩⟩
  case round =>
    obtain ⟨j, hj, rfl, HR⟩ := hrel
    clear HI
    rcases Nat.lt_or_ge j nb with hjl | hjl
    · have hji : (j : Int) < (nb : Int) := by omega
      have hjN : j + 1 < Y.N := by omega
      obtain ⟨v, hB⟩ := HR.out
      have hc : wr.cell? ⟨GB, j, none⟩ = some (.pointer (some ⟨Q (j + 1), 0, none⟩)) := hB.gb (j + 1) (by omega) (by omega)
      have hadd : (⟨GB, 0, none⟩ : Addr).add j = ⟨GB, j, none⟩ := by rw [add_at, Nat.zero_add]
      have HB := Lib.hid (hB.read (under.drew_below wr))
      clear HR
      go_wp2_with (fail)
      clear hB hc hadd
      refine wp_region_any (by kernel_rfl) ?_
      refine wpAny_take (i := 0) (v := .pointer (some ⟨D, 0, none⟩)) rfl (by kernel_rfl) (by kernel_rfl) (by kernel_rfl) (fun _ _ _ h => h) (Or.inl ⟨by rfl, fun wx => by go_simp⟩) ?_
      refine wpAny_take (i := 1) (v := .pointer (some ⟨D, 0, none⟩)) rfl (by kernel_rfl) (by kernel_rfl) (by kernel_rfl) (fun _ _ _ h => h) (Or.inl ⟨by rfl, fun wx => by go_simp⟩) ?_
      refine wpAny_take (i := 2) (v := .pointer (some ⟨D, 0, none⟩)) rfl (by kernel_rfl) (by kernel_rfl) (by kernel_rfl) (fun _ _ _ h => h) (Or.inl ⟨by rfl, fun wx => by go_simp⟩) ?_
      refine wpAny_take (i := 3) (v := .pointer (some ⟨D, 6, none⟩)) rfl (by kernel_rfl) (by kernel_rfl) (by kernel_rfl) (fun _ _ _ h => h) (Or.inl ⟨by rfl, fun wx => by go_simp⟩) ?_
      refine wpAny_take (i := 5) (v := .pointer (some ⟨Q (j + 1), 0, none⟩)) rfl (by kernel_rfl) (by kernel_rfl) (by kernel_rfl) (fun _ _ _ h => h) (Or.inl ⟨by rfl, fun wx => by go_simp⟩) ?_
      refine wpAny_ready (rs := [4, 6]) (by kernel_rfl) (by simp) ?_
      refine AllReady.cons rfl (fun K hK => ?_) ?_
      · have h6 := HB.out.row.c6
        go_simp
        refine hK _ _ ?_
        clear hK K h6
        refine wpAny_ready (rs := [6]) (by kernel_rfl) (by simp) ?_
        refine AllReady.cons rfl (fun K hK => ?_) AllReady.nil
        have cT := (show Calls Tryz.prog 158 #[.pointer (some ⟨Q (j + 1), 0, none⟩)] wr.drew (fun e w' => e = .returned (.tuple #[.pointer (some ⟨Y.T (j + 1), 0, none⟩), .nilIface]) ∧ Hid (Bgn a w0 w Y D Q n1 d dp GB cB GT 1 dn t (j + 1) j v v w')) from
          (build.take_on (Q (j + 1)) n1 ⟨Y.T (j + 1), 0, none⟩ (okN_le HB.out.pl.o1) wr.drew (by have := HB.out.bx (j + 1) (by omega) hjN; rwa [if_neg (by omega)] at this)).mono fun e w' ⟨he, q, hq⟩ => ⟨he, by rw [hq]; exact Lib.hid (HB.out.take hjN q)⟩)
        go_simp
        refine cT.mono ?_
        clear cT
        rintro e y1 ⟨rfl, HB⟩
        refine hK _ _ ?_
        clear hK K
        refine wpAny_take (i := 7) (v := .pointer (some ⟨Y.T (j + 1), 0, none⟩)) rfl (by kernel_rfl) (by kernel_rfl) (by kernel_rfl) (fun _ _ _ h => h) (Or.inl ⟨by rfl, fun wx => by go_simp⟩) ?_
        refine wpAny_take (i := 8) (v := .nilIface) rfl (by kernel_rfl) (by kernel_rfl) (by kernel_rfl) (fun _ _ _ h => h) (Or.inl ⟨by rfl, fun wx => by go_simp⟩) ?_
        refine wpAny_ready (rs := [9]) (by kernel_rfl) (by simp) ?_
        refine AllReady.cons rfl (fun K hK => ?_) AllReady.nil
        go_simp
        refine (must_tab _ _).mono ?_
        rintro e y2 ⟨rfl, rfl⟩
        refine hK _ _ ?_
        clear hK K
        refine wpAny_ready (rs := [10]) (by kernel_rfl) (by simp) ?_
        refine AllReady.cons rfl (fun K hK => ?_) AllReady.nil
        go_simp
        refine hK _ _ ?_
        clear hK K
        have HB := Lib.hid (HB.out.read (new_block _ (.cells #[.pointer (some ⟨Y.T (j + 1), 0, none⟩)] 77)))
        have HN := Lib.hid (newc _ (.pointer (some ⟨Y.T (j + 1), 0, none⟩)) 77 : World.cell? (World.alloc y1 _) _ = _)
        generalize y1.alloc (.cells #[.pointer (some ⟨Y.T (j + 1), 0, none⟩)] 77) = y3 at *
        generalize y1.heap.size = A at *
        refine wpAny_ready (rs := [11]) (by kernel_rfl) (by simp) ?_
        refine AllReady.cons rfl (fun K hK => ?_) AllReady.nil
        have zs := HB.out.past.size
        refine app.step_append_val _ (by rfl) _ _ 70 (by rfl) w.heap.size 77 i0 (.pointer none) 1 8 Tryz.underlying70 hi0 hq0 hq1 hq2 rfl (by decide) v j (newsV Y j) (by rfl) HB.out.un _ 1 [.pointer (some ⟨Y.T (j + 1), 0, none⟩)] (by rfl) ⟨_, _, rfl, fun i u hu => by
          obtain rfl : i = 0 := by
            rcases Nat.eq_zero_or_pos i with e | e
            · exact e
            · rw [List.getElem?_eq_none (by simp; omega)] at hu; cases hu
          obtain rfl : (.pointer (some ⟨Y.T (j + 1), 0, none⟩) : Value) = u := by simpa using hu
          exact ⟨_, rfl, by rw [add_at]; exact HN.out⟩⟩ rfl (by simp [Value.oneCell']) (by simp only [maxLen]; omega) (by omega) (by omega) ?_
        intro v24 y4 hown4 hgrow4
        refine hK _ _ ?_
        clear hK K
        have HB := Lib.hid (HB.out.grow hgrow4 hown4)
        obtain ⟨g24, c24, rfl, _, _⟩ := hown4.form (by omega)
        clear hown4 hgrow4 HN
        refine wpAny_take (i := 12) (v := .pointer (some ⟨D, 0, none⟩)) rfl (by kernel_rfl) (by kernel_rfl) (by kernel_rfl) (fun _ _ _ h => h) (Or.inl ⟨by rfl, fun wx => by go_simp⟩) ?_
        refine wpAny_take (i := 13) (v := .pointer (some ⟨D, 6, none⟩)) rfl (by kernel_rfl) (by kernel_rfl) (by kernel_rfl) (fun _ _ _ h => h) (Or.inl ⟨by rfl, fun wx => by go_simp⟩) ?_
        refine wpAny_ready (rs := [14]) (by kernel_rfl) (by simp) ?_
        refine AllReady.cons rfl (fun K hK => ?_) AllReady.nil
        have h6 := HB.out.row.c6
        have hf := HB.out.row.fz
        go_simp
        refine hK _ _ ?_
        clear hK K h6 hf
        have HB := Lib.hid HB.out.store
        refine wpAny_done (by kernel_rfl) ?_ _
        go_wp2
        go_roundw
        case rel => exact ⟨j + 1, by omega, by simp, Lib.hid ⟨_, HB.out⟩⟩
        case measure => simp [intOf]; omega
      · refine AllReady.cons rfl (fun K hK => ?_) AllReady.nil
        have cT := (show Calls Tryz.prog 158 #[.pointer (some ⟨Q (j + 1), 0, none⟩)] wr.drew (fun e w' => e = .returned (.tuple #[.pointer (some ⟨Y.T (j + 1), 0, none⟩), .nilIface]) ∧ Hid (Bgn a w0 w Y D Q n1 d dp GB cB GT 1 dn t (j + 1) j v v w')) from
          (build.take_on (Q (j + 1)) n1 ⟨Y.T (j + 1), 0, none⟩ (okN_le HB.out.pl.o1) wr.drew (by have := HB.out.bx (j + 1) (by omega) hjN; rwa [if_neg (by omega)] at this)).mono fun e w' ⟨he, q, hq⟩ => ⟨he, by rw [hq]; exact Lib.hid (HB.out.take hjN q)⟩)
        go_simp
        refine cT.mono ?_
        clear cT
        rintro e y1 ⟨rfl, HB⟩
        refine hK _ _ ?_
        clear hK K
        refine wpAny_take (i := 7) (v := .pointer (some ⟨Y.T (j + 1), 0, none⟩)) rfl (by kernel_rfl) (by kernel_rfl) (by kernel_rfl) (fun _ _ _ h => h) (Or.inl ⟨by rfl, fun wx => by go_simp⟩) ?_
        refine wpAny_take (i := 8) (v := .nilIface) rfl (by kernel_rfl) (by kernel_rfl) (by kernel_rfl) (fun _ _ _ h => h) (Or.inl ⟨by rfl, fun wx => by go_simp⟩) ?_
        refine wpAny_ready (rs := [4, 9]) (by kernel_rfl) (by simp) ?_
        refine AllReady.cons rfl (fun K hK => ?_) ?_
        · have h6 := HB.out.row.c6
          go_simp
          refine hK _ _ ?_
          clear hK K h6
          refine wpAny_ready (rs := [9]) (by kernel_rfl) (by simp) ?_
          refine AllReady.cons rfl (fun K hK => ?_) AllReady.nil
          go_simp
          refine (must_tab _ _).mono ?_
          rintro e y2 ⟨rfl, rfl⟩
          refine hK _ _ ?_
          clear hK K
          refine wpAny_ready (rs := [10]) (by kernel_rfl) (by simp) ?_
          refine AllReady.cons rfl (fun K hK => ?_) AllReady.nil
          go_simp
          refine hK _ _ ?_
          clear hK K
          have HB := Lib.hid (HB.out.read (new_block _ (.cells #[.pointer (some ⟨Y.T (j + 1), 0, none⟩)] 77)))
          have HN := Lib.hid (newc _ (.pointer (some ⟨Y.T (j + 1), 0, none⟩)) 77 : World.cell? (World.alloc y1 _) _ = _)
          generalize y1.alloc (.cells #[.pointer (some ⟨Y.T (j + 1), 0, none⟩)] 77) = y3 at *
          generalize y1.heap.size = A at *
          refine wpAny_ready (rs := [11]) (by kernel_rfl) (by simp) ?_
          refine AllReady.cons rfl (fun K hK => ?_) AllReady.nil
          have zs := HB.out.past.size
          refine app.step_append_val _ (by rfl) _ _ 70 (by rfl) w.heap.size 77 i0 (.pointer none) 1 8 Tryz.underlying70 hi0 hq0 hq1 hq2 rfl (by decide) v j (newsV Y j) (by rfl) HB.out.un _ 1 [.pointer (some ⟨Y.T (j + 1), 0, none⟩)] (by rfl) ⟨_, _, rfl, fun i u hu => by
            obtain rfl : i = 0 := by
              rcases Nat.eq_zero_or_pos i with e | e
              · exact e
              · rw [List.getElem?_eq_none (by simp; omega)] at hu; cases hu
            obtain rfl : (.pointer (some ⟨Y.T (j + 1), 0, none⟩) : Value) = u := by simpa using hu
            exact ⟨_, rfl, by rw [add_at]; exact HN.out⟩⟩ rfl (by simp [Value.oneCell']) (by simp only [maxLen]; omega) (by omega) (by omega) ?_
          intro v24 y4 hown4 hgrow4
          refine hK _ _ ?_
          clear hK K
          have HB := Lib.hid (HB.out.grow hgrow4 hown4)
          obtain ⟨g24, c24, rfl, _, _⟩ := hown4.form (by omega)
          clear hown4 hgrow4 HN
          refine wpAny_take (i := 12) (v := .pointer (some ⟨D, 0, none⟩)) rfl (by kernel_rfl) (by kernel_rfl) (by kernel_rfl) (fun _ _ _ h => h) (Or.inl ⟨by rfl, fun wx => by go_simp⟩) ?_
          refine wpAny_take (i := 13) (v := .pointer (some ⟨D, 6, none⟩)) rfl (by kernel_rfl) (by kernel_rfl) (by kernel_rfl) (fun _ _ _ h => h) (Or.inl ⟨by rfl, fun wx => by go_simp⟩) ?_
          refine wpAny_ready (rs := [14]) (by kernel_rfl) (by simp) ?_
          refine AllReady.cons rfl (fun K hK => ?_) AllReady.nil
          have h6 := HB.out.row.c6
          have hf := HB.out.row.fz
          go_simp
          refine hK _ _ ?_
          clear hK K h6 hf
          have HB := Lib.hid HB.out.store
          refine wpAny_done (by kernel_rfl) ?_ _
          go_wp2
          go_roundw
          case rel => exact ⟨j + 1, by omega, by simp, Lib.hid ⟨_, HB.out⟩⟩
          case measure => simp [intOf]; omega
        · refine AllReady.cons rfl (fun K hK => ?_) AllReady.nil
          go_simp
          refine (must_tab _ _).mono ?_
          rintro e y2 ⟨rfl, rfl⟩
          refine hK _ _ ?_
          clear hK K
          refine wpAny_ready (rs := [4, 10]) (by kernel_rfl) (by simp) ?_
          refine AllReady.cons rfl (fun K hK => ?_) ?_
          · have h6 := HB.out.row.c6
            go_simp
            refine hK _ _ ?_
            clear hK K h6
            refine wpAny_ready (rs := [10]) (by kernel_rfl) (by simp) ?_
            refine AllReady.cons rfl (fun K hK => ?_) AllReady.nil
            go_simp
            refine hK _ _ ?_
            clear hK K
            have HB := Lib.hid (HB.out.read (new_block _ (.cells #[.pointer (some ⟨Y.T (j + 1), 0, none⟩)] 77)))
            have HN := Lib.hid (newc _ (.pointer (some ⟨Y.T (j + 1), 0, none⟩)) 77 : World.cell? (World.alloc y1 _) _ = _)
            generalize y1.alloc (.cells #[.pointer (some ⟨Y.T (j + 1), 0, none⟩)] 77) = y3 at *
            generalize y1.heap.size = A at *
            refine wpAny_ready (rs := [11]) (by kernel_rfl) (by simp) ?_
            refine AllReady.cons rfl (fun K hK => ?_) AllReady.nil
            have zs := HB.out.past.size
            refine app.step_append_val _ (by rfl) _ _ 70 (by rfl) w.heap.size 77 i0 (.pointer none) 1 8 Tryz.underlying70 hi0 hq0 hq1 hq2 rfl (by decide) v j (newsV Y j) (by rfl) HB.out.un _ 1 [.pointer (some ⟨Y.T (j + 1), 0, none⟩)] (by rfl) ⟨_, _, rfl, fun i u hu => by
              obtain rfl : i = 0 := by
                rcases Nat.eq_zero_or_pos i with e | e
                · exact e
                · rw [List.getElem?_eq_none (by simp; omega)] at hu; cases hu
              obtain rfl : (.pointer (some ⟨Y.T (j + 1), 0, none⟩) : Value) = u := by simpa using hu
              exact ⟨_, rfl, by rw [add_at]; exact HN.out⟩⟩ rfl (by simp [Value.oneCell']) (by simp only [maxLen]; omega) (by omega) (by omega) ?_
            intro v24 y4 hown4 hgrow4
            refine hK _ _ ?_
            clear hK K
            have HB := Lib.hid (HB.out.grow hgrow4 hown4)
            obtain ⟨g24, c24, rfl, _, _⟩ := hown4.form (by omega)
            clear hown4 hgrow4 HN
            refine wpAny_take (i := 12) (v := .pointer (some ⟨D, 0, none⟩)) rfl (by kernel_rfl) (by kernel_rfl) (by kernel_rfl) (fun _ _ _ h => h) (Or.inl ⟨by rfl, fun wx => by go_simp⟩) ?_
            refine wpAny_take (i := 13) (v := .pointer (some ⟨D, 6, none⟩)) rfl (by kernel_rfl) (by kernel_rfl) (by kernel_rfl) (fun _ _ _ h => h) (Or.inl ⟨by rfl, fun wx => by go_simp⟩) ?_
            refine wpAny_ready (rs := [14]) (by kernel_rfl) (by simp) ?_
            refine AllReady.cons rfl (fun K hK => ?_) AllReady.nil
            have h6 := HB.out.row.c6
            have hf := HB.out.row.fz
            go_simp
            refine hK _ _ ?_
            clear hK K h6 hf
            have HB := Lib.hid HB.out.store
            refine wpAny_done (by kernel_rfl) ?_ _
            go_wp2
            go_roundw
            case rel => exact ⟨j + 1, by omega, by simp, Lib.hid ⟨_, HB.out⟩⟩
            case measure => simp [intOf]; omega
          · refine AllReady.cons rfl (fun K hK => ?_) AllReady.nil
            go_simp
            refine hK _ _ ?_
            clear hK K
            have HB := Lib.hid (HB.out.read (new_block _ (.cells #[.pointer (some ⟨Y.T (j + 1), 0, none⟩)] 77)))
            have HN := Lib.hid (newc _ (.pointer (some ⟨Y.T (j + 1), 0, none⟩)) 77 : World.cell? (World.alloc y1 _) _ = _)
            generalize y1.alloc (.cells #[.pointer (some ⟨Y.T (j + 1), 0, none⟩)] 77) = y3 at *
            generalize y1.heap.size = A at *
            refine wpAny_ready (rs := [4]) (by kernel_rfl) (by simp) ?_
            refine AllReady.cons rfl (fun K hK => ?_) AllReady.nil
            have h6 := HB.out.row.c6
            go_simp
            refine hK _ _ ?_
            clear hK K h6
            refine wpAny_ready (rs := [11]) (by kernel_rfl) (by simp) ?_
            refine AllReady.cons rfl (fun K hK => ?_) AllReady.nil
            have zs := HB.out.past.size
            refine app.step_append_val _ (by rfl) _ _ 70 (by rfl) w.heap.size 77 i0 (.pointer none) 1 8 Tryz.underlying70 hi0 hq0 hq1 hq2 rfl (by decide) v j (newsV Y j) (by rfl) HB.out.un _ 1 [.pointer (some ⟨Y.T (j + 1), 0, none⟩)] (by rfl) ⟨_, _, rfl, fun i u hu => by
              obtain rfl : i = 0 := by
                rcases Nat.eq_zero_or_pos i with e | e
                · exact e
                · rw [List.getElem?_eq_none (by simp; omega)] at hu; cases hu
              obtain rfl : (.pointer (some ⟨Y.T (j + 1), 0, none⟩) : Value) = u := by simpa using hu
              exact ⟨_, rfl, by rw [add_at]; exact HN.out⟩⟩ rfl (by simp [Value.oneCell']) (by simp only [maxLen]; omega) (by omega) (by omega) ?_
            intro v24 y4 hown4 hgrow4
            refine hK _ _ ?_
            clear hK K
            have HB := Lib.hid (HB.out.grow hgrow4 hown4)
            obtain ⟨g24, c24, rfl, _, _⟩ := hown4.form (by omega)
            clear hown4 hgrow4 HN
            refine wpAny_take (i := 12) (v := .pointer (some ⟨D, 0, none⟩)) rfl (by kernel_rfl) (by kernel_rfl) (by kernel_rfl) (fun _ _ _ h => h) (Or.inl ⟨by rfl, fun wx => by go_simp⟩) ?_
            refine wpAny_take (i := 13) (v := .pointer (some ⟨D, 6, none⟩)) rfl (by kernel_rfl) (by kernel_rfl) (by kernel_rfl) (fun _ _ _ h => h) (Or.inl ⟨by rfl, fun wx => by go_simp⟩) ?_
            refine wpAny_ready (rs := [14]) (by kernel_rfl) (by simp) ?_
            refine AllReady.cons rfl (fun K hK => ?_) AllReady.nil
            have h6 := HB.out.row.c6
            have hf := HB.out.row.fz
            go_simp
            refine hK _ _ ?_
            clear hK K h6 hf
            have HB := Lib.hid HB.out.store
            refine wpAny_done (by kernel_rfl) ?_ _
            go_wp2
            go_roundw
            case rel => exact ⟨j + 1, by omega, by simp, Lib.hid ⟨_, HB.out⟩⟩
            case measure => simp [intOf]; omega
    · obtain rfl : j = nb := by omega
      obtain ⟨v, hB⟩ := HR.out
      obtain ⟨g24, c24, rfl, _, _⟩ := hB.un.form (by omega)
      have HB := Lib.hid hB
      have c4 := hB.row.c4
      have c2 := hB.row.c2
      have c6 := hB.row.c6
      have cg := hB.gt
      have c5 := hB.row.c5
      have cf := hB.row.fz
      clear hB HR
      go_wp2_with (fail)
      refine wp_region_any (by kernel_rfl) ?_
      refine wpAny_take (i := 0) (v := .pointer (some ⟨D, 0, none⟩)) rfl (by kernel_rfl) (by kernel_rfl) (by kernel_rfl) (fun _ _ _ h => h) (Or.inl ⟨by rfl, fun wx => by go_simp⟩) ?_
      refine wpAny_head (C := fun w' => ∃ q, w' = wr.drewN q) (g := 7) [false, true, true, true, true, true, true, true, true, true, true, true, true, true, true] (by kernel_rfl) ⟨1, rfl⟩ ?_
      simp only [sel, setAll]
      iterate 14 quiet_step (fail)
      refine wpQuiet_nil ?_
      rintro _ ⟨q, rfl⟩
      have cE := ev_new (HB.out.read (below_drewN' wr q)) hnb
      have HB := Lib.hid (HB.out.read (below_drewN' wr q))
      clear c4 c5 c2 c6 cg cf
      generalize wr.drewN q = w3 at *
      refine wpAny_ready (rs := [15]) (by kernel_rfl) (by simp) ?_
      refine AllReady.cons rfl (fun K hK => ?_) AllReady.nil
      go_simp
      refine cE.mono ?_
      clear cE
      rintro e w4 ⟨V, rfl, hE, hV, hb4⟩
      refine hK _ _ ?_
      clear hK K
      have H2 := Lib.hid (HB.out.two (cb := 0) hE hV hb4)
      clear HB hE hV hb4
      refine wpAny_take (i := 16) (v := .pointer (some ⟨V, 0, none⟩)) rfl (by kernel_rfl) (by kernel_rfl) (by kernel_rfl) (fun _ _ _ h => h) (Or.inl ⟨by rfl, fun wx => by go_simp⟩) ?_
      refine wpAny_take (i := 17) (v := .nilIface) rfl (by kernel_rfl) (by kernel_rfl) (by kernel_rfl) (fun _ _ _ h => h) (Or.inl ⟨by rfl, fun wx => by go_simp⟩) ?_
      refine wpAny_ready (rs := [18]) (by kernel_rfl) (by simp) ?_
      refine AllReady.cons rfl (fun K hK => ?_) AllReady.nil
      go_simp
      refine (must_ev _ _).mono ?_
      rintro e w5 ⟨rfl, rfl⟩
      refine hK _ _ ?_
      clear hK K
      refine wpAny_take (i := 19) (v := .pointer (some ⟨D, 0, none⟩)) rfl (by kernel_rfl) (by kernel_rfl) (by kernel_rfl) (fun _ _ _ h => h) (Or.inl ⟨by rfl, fun wx => by go_simp⟩) ?_
      refine wpAny_take (i := 20) (v := .pointer (some ⟨D, 5, none⟩)) rfl (by kernel_rfl) (by kernel_rfl) (by kernel_rfl) (fun _ _ _ h => h) (Or.inl ⟨by rfl, fun wx => by go_simp⟩) ?_
      refine wpAny_ready (rs := [21]) (by kernel_rfl) (by simp) ?_
      refine AllReady.cons rfl (fun K hK => ?_) AllReady.nil
      obtain ⟨sB, hr4⟩ := H2.out.row
      have c5 := hr4.c5
      have cf := hr4.fz
      go_simp
      refine hK _ _ ?_
      clear hK K c5 cf hr4
      have H2 := Lib.hid H2.out.store
      refine wpAny_done (by kernel_rfl) ?_ _
      generalize w4.setCell ⟨D, 5, none⟩ (.pointer (some ⟨V, 0, none⟩)) = w6 at *
      go_wp2_with (fail)
      obtain ⟨sB, hr6⟩ := H2.out.row
      have c4 := hr6.c4
      have c6 := hr6.c6
      refine wp_region_any (by kernel_rfl) ?_
      refine wpAny_take (i := 0) (v := .pointer (some ⟨D, 0, none⟩)) rfl (by kernel_rfl) (by kernel_rfl) (by kernel_rfl) (fun _ _ _ h => h) (Or.inl ⟨by rfl, fun wx => by go_simp⟩) ?_
      refine wpAny_take (i := 1) (v := .pointer (some ⟨D, 0, none⟩)) rfl (by kernel_rfl) (by kernel_rfl) (by kernel_rfl) (fun _ _ _ h => h) (Or.inl ⟨by rfl, fun wx => by go_simp⟩) ?_
      refine wpAny_take (i := 2) (v := .pointer (some ⟨D, 0, none⟩)) rfl (by kernel_rfl) (by kernel_rfl) (by kernel_rfl) (fun _ _ _ h => h) (Or.inl ⟨by rfl, fun wx => by go_simp⟩) ?_
      refine wpAny_take (i := 3) (v := .pointer (some ⟨D, 4, none⟩)) rfl (by kernel_rfl) (by kernel_rfl) (by kernel_rfl) (fun _ _ _ h => h) (Or.inl ⟨by rfl, fun wx => by go_simp⟩) ?_
      refine wpAny_take (i := 5) (v := .pointer (some ⟨D, 0, none⟩)) rfl (by kernel_rfl) (by kernel_rfl) (by kernel_rfl) (fun _ _ _ h => h) (Or.inl ⟨by rfl, fun wx => by go_simp⟩) ?_
      refine wpAny_take (i := 6) (v := .pointer (some ⟨D, 0, none⟩)) rfl (by kernel_rfl) (by kernel_rfl) (by kernel_rfl) (fun _ _ _ h => h) (Or.inl ⟨by rfl, fun wx => by go_simp⟩) ?_
      refine wpAny_take (i := 7) (v := .pointer (some ⟨D, 6, none⟩)) rfl (by kernel_rfl) (by kernel_rfl) (by kernel_rfl) (fun _ _ _ h => h) (Or.inl ⟨by rfl, fun wx => by go_simp⟩) ?_
      refine wpAny_head (C := fun w' => ∃ q, w' = w6.drewN q) (g := 4) [false, false, false, false, true, false, false, false, true] (by kernel_rfl) ⟨1, rfl⟩ ?_
      simp only [sel, setAll]
      iterate 2 quiet_step (fail)
      refine wpQuiet_nil ?_
      rintro _ ⟨q, rfl⟩
      have H2 := Lib.hid (H2.out.read (below_drewN' w6 q))
      clear c4 c6 hr6
      generalize w6.drewN q = w7 at *
      have A1 : ∀ b, some (⟨GT, 0, none⟩ : Addr) = some b → ∀ i u, ([.pointer (some ⟨Y.T 0, 0, none⟩)] : List Value)[i]? = some u → w7.cell? (b.add i) = some u := fun b hb i u hu => by
        injection hb with hb
        subst hb
        obtain rfl : i = 0 := by
          rcases Nat.eq_zero_or_pos i with e | e
          · exact e
          · rw [List.getElem?_eq_none (by simp; omega)] at hu; cases hu
        obtain rfl : (.pointer (some ⟨Y.T 0, 0, none⟩) : Value) = u := by simpa using hu
        rw [add_at]; exact H2.out.gt
      have A2 : ∀ i u, (newsV Y j)[i]? = some u → w7.cell? ((⟨g24, 0, none⟩ : Addr).add i) = some u := fun i u hu => by
        have hi : i < j := by
          have := (List.getElem?_eq_some_iff.1 hu).1
          rwa [newsV_length] at this
        have hu' : (newsV Y j)[i]? = some (.pointer (some ⟨Y.T (i + 1), 0, none⟩)) := by simp [newsV, hi]
        rw [hu'] at hu
        obtain rfl : (.pointer (some ⟨Y.T (i + 1), 0, none⟩) : Value) = u := by simpa using hu
        rw [add_at, Nat.zero_add]; exact H2.out.gu i hi
      have A3 : ∀ u ∈ newsV Y j, u.oneCell' = true := fun u hu => by
        obtain ⟨i, _, rfl⟩ := List.mem_map.1 hu
        rfl
      have A4 := newsV_length Y j
      have HA := Lib.hid (And.intro A1 (And.intro A2 (And.intro A3 A4)))
      clear A1 A2 A3 A4
      refine wpAny_rest 9 rfl (by kernel_rfl) ?_
      simp only [List.drop_succ_cons, List.drop_zero]
      refine wpList_append_grows _ rfl _ _ 70 rfl 77 i0 (.pointer none) 1 8 Tryz.underlying70 hi0 hq0 hq1 hq2 rfl (by decide) (some ⟨GT, 0, none⟩) 1 1 [.pointer (some ⟨Y.T 0, 0, none⟩)] (by rfl) (by simp) rfl HA.out.1 ⟨g24, 0, none⟩ j c24 (newsV Y j) (by rfl) (by rw [HA.out.2.2.2]; omega) HA.out.2.1 HA.out.2.2.1 (by omega) (by simp only [maxLen]; omega) (by omega) ?_
      intro v9 w9 hown9 hgrow9
      obtain ⟨GT', cT', rfl, z1, z2, hr9, hM9, hp9⟩ := H2.out.mov hnb hgrow9 hown9
      have c4 := hr9.c4
      have cf := hr9.fz
      have HM := Lib.hid (And.intro hM9 hp9)
      clear hown9 hgrow9 hM9 hp9 hr9
      go_wp2
      go_end0
      exact ⟨rfl, V, GT', cT', g24, c24, HM.out.1, HM.out.2, by have := H2.out.hV; have := H2.out.hg; omega, z2, H2.out.hg⟩
end Go.Proofs.YteedbnoefnlidaaGreatDoor.dual
