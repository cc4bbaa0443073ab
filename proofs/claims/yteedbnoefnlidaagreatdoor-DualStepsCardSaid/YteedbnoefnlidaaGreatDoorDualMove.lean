/- dual: Step, Take. -/
import Derived.Test.YteedbnoefnlidaaGreatDoorDualStep
import Derived.LoopTactic
namespace Go.Proofs.YteedbnoefnlidaaGreatDoor.dual
open Go.ChangeShapes Go.WideShapes Go.ChangeAt Go.RowKit Go.Shelf swar under trap meter group probe lens tail call table evac
attribute [local go_sem] Oper.semAt_some stage.pureUpon move.stepUpon
set_option linter.unusedSimpArgs false
set_option linter.unusedVariables false

/-- do all entries of the next group find their places? -/
def sG (rd : Bool) (N d nx : Nat) (t : Nat → Tb) : Bool := !rd || goods N d t (lst t nx)
/-- the tables behind a step -/
def sT (rd : Bool) (N d nx : Nat) (t : Nat → Tb) : Nat → Tb := if rd = true then tak (mvs N d t (lst t nx)) nx else t
/-- how many more groups it looks at -/
def sK (rd : Bool) (N d nx : Nat) (t : Nat → Tb) : Nat := if rd = true then lkc N d t (lst t nx) else 0
theorem sG_no (N d nx : Nat) (t : Nat → Tb) : sG false N d nx t = true := rfl
theorem sT_no (N d nx : Nat) (t : Nat → Tb) : sT false N d nx t = t := rfl
theorem sK_no (N d nx : Nat) (t : Nat → Tb) : sK false N d nx t = 0 := rfl
theorem sG_yes (N d nx : Nat) (t : Nat → Tb) : sG true N d nx t = goods N d t (lst t nx) := by unfold sG; simp
theorem sT_yes (N d nx : Nat) (t : Nat → Tb) : sT true N d nx t = tak (mvs N d t (lst t nx)) nx := by unfold sT; simp
theorem sK_yes (N d nx : Nat) (t : Nat → Tb) : sK true N d nx t = lkc N d t (lst t nx) := by unfold sK; simp
theorem msee_zero (m : Mt) : msee m 0 = m := rfl
section
variable {a : String → Addr} {w0 : World} {Y : Lay} {D n1 d : Nat} {dp : Int} {q : Nat} {tk : Bool} {t : Nat → Tb} {fp : List Nat} {w W W' : World} {Bm : Nat} {m : Mt}
theorem Mov.lts {Q : Nat → Nat} {GT cT GU cU V nx dn : Nat} (h : Mov a w0 Y D Q n1 d dp GT cT GU cU V nx dn tk t W) : ∀ b ∈ fpM Y D GT GU V, b < W.heap.size := fun b hb => by
  have hN := h.pl.N
  simp only [fpM, List.mem_cons] at hb
  rcases hb with rfl | rfl | rfl | rfl | hb
  · exact World.block_lt_of_cell? _ _ (h.gt 0 (by omega))
  · exact World.block_lt_of_cell? _ _ (h.gu 1 (Nat.le_refl _) (by omega))
  · exact h.ev.lt
  · obtain ⟨sB, hr⟩ := h.row
    exact hr.lt
  · exact h.re.lt b hb
theorem DAt.lts (h : DAt a w0 Y D n1 d dp q tk t fp W) : ∀ b ∈ fp, b < W.heap.size := by
  rcases h with ⟨hq, h1, Q, GB, cB, GT, cT, h, rfl⟩ | ⟨hq, h1, Q, GT, cT, GU, cU, V, h, rfl⟩
  · exact h.lts
  · exact h.lts
/-- the number of steps that are done is kept -/
theorem Pre.count {Q : Nat → Nat} {GB cB GT cT p dn : Nat} (h : Pre a w0 Y D Q n1 d dp GB cB GT cT p dn t W) (x : Nat) : Pre a w0 Y D Q n1 d dp GB cB GT cT p x t (W.setCell ⟨D, 1, none⟩ (.int .i64 (x : Nat))) := by
  have hp : Past [D] W (W.setCell ⟨D, 1, none⟩ (.int .i64 (x : Nat))) := (Past.refl _ _).store (.inl (by simp)) _
  have nt : ∀ b ∈ Y.tall, b ∉ [D] := fun b hb e => by
    obtain rfl : b = D := by simpa using e
    exact h.pl.nD hb
  refine ⟨h.pl, h.row.set1 x, fun j h1 hj' => hp.cell (h.gb j h1 hj') (by simpa using h.nGB.2.1), hp.cell h.gt (by simpa using h.nGT.2.1), h.re.past hp (fun b hb => ?_), fun j h1 hj' => (h.bx j h1 hj').past hp (by simpa using h.pl.qD j h1 hj'), fun j h1 hj' => (h.tb j h1 hj').past hp (nt _ (h.pl.tin hj').1) (nt _ (h.pl.tin hj').2), h.nGB, h.nGT, h.tn, h.c1⟩
  obtain rfl : b = D := by simpa using hb
  exact ⟨h.pl.hD, fun e => h.pl.nD (cut_tall h.pl.N e)⟩
theorem Mov.count {Q : Nat → Nat} {GT cT GU cU V nx dn : Nat} (h : Mov a w0 Y D Q n1 d dp GT cT GU cU V nx dn tk t W) (x : Nat) : Mov a w0 Y D Q n1 d dp GT cT GU cU V nx x tk t (W.setCell ⟨D, 1, none⟩ (.int .i64 (x : Nat))) := by
  have hp : Past [D] W (W.setCell ⟨D, 1, none⟩ (.int .i64 (x : Nat))) := (Past.refl _ _).store (.inl (by simp)) _
  obtain ⟨sB, hr⟩ := h.row
  refine ⟨h.pl, ⟨sB, hr.set1 x⟩, fun j hj => hp.cell (h.gt j hj) (by simpa using h.nGT.2.1), fun j h1 hj => hp.cell (h.gu j h1 hj) (by simpa using h.nGU.2.1), h.re.past hp (fun b hb => ?_), h.ev.past hp (by simpa using h.nV.2), h.hV, h.nV, h.nGT, h.nGU⟩
  obtain rfl : b = D := by simpa using hb
  exact ⟨h.pl.hD, h.pl.nD⟩
/-- one more group is moved -/
theorem Mov.moved {Q : Nat → Nat} {GT cT GU cU V nx dn : Nat} {t' : Nat → Tb} (h : Mov a w0 Y D Q n1 d dp GT cT GU cU V nx dn tk t W) (hp : Past (V :: Bm :: Y.tall) W W') (hB : Bm ∉ fpM Y D GT GU V) (hr : Real a w0 Y t' W') (he : EvAt V Y d (nx + 1) W') : Mov a w0 Y D Q n1 d dp GT cT GU cU V (nx + 1) dn tk t' W' := by
  have no : ∀ x, x ∈ fpM Y D GT GU V → x ∉ Y.tall → x ≠ V → x ∉ V :: Bm :: Y.tall := fun x hx ht hv e => by
    simp only [List.mem_cons] at e
    rcases e with e | e | e
    · exact hv e
    · exact hB (e ▸ hx)
    · exact ht e
  obtain ⟨sB, hrow⟩ := h.row
  exact ⟨h.pl, ⟨sB, hrow.past hp (no D (by simp [fpM]) h.pl.nD (Ne.symm h.nV.2))⟩, fun j hj => hp.cell (h.gt j hj) (no GT (by simp [fpM]) h.nGT.1 h.nGT.2.2), fun j h1 hj => hp.cell (h.gu j h1 hj) (no GU (by simp [fpM]) h.nGU.1 h.nGU.2.2), hr, he, h.hV, h.nV, h.nGT, h.nGU⟩
set_option maxRecDepth 20000 in
theorem DAt.step_off (h : DAt a w0 Y D n1 d dp q tk t fp w) (hq : q = Y.n 0 + (Y.N - 1) * n1) (v : Option Addr) :
    Calls Tryz.prog 31 #[.pointer (some ⟨D, 0, none⟩), .pointer v] w fun e w' => e = .returned (.bool false) ∧ Below w.heap.size w w' := by
  have cL := h.left
  rw [hq, Nat.sub_self] at cL
  clear h hq
  go_enter Tryz.func31, Tryz.ntmps31
  go_wp2_with (go_at_call 36; refine cL.mono ?_; rintro e w1 ⟨rfl, hb1⟩)
  go_ret
  exact ⟨rfl, hb1⟩
set_option maxRecDepth 20000 in
set_option maxHeartbeats 1000000 in
theorem DAt.step_on (h : DAt a w0 Y D n1 d dp q tk t fp w) (hq : q < Y.n 0 + (Y.N - 1) * n1) (hm : MAt Bm 0 m w) (hok : m.Ok) (hu : m.unitE 1 = 0) (hB0 : w0.heap.size ≤ Bm) (hB : Bm ∉ fp) :
    Calls Tryz.prog 31 #[.pointer (some ⟨D, 0, none⟩), .pointer (some ⟨Bm, 0, none⟩)] w fun e w' =>
      (sG (rdy Y n1 q) Y.N d (q - (Y.N - 1) * n1) t = true ∧ e = .returned (.bool true) ∧ ∃ fp', DAt a w0 Y D n1 d dp (q + 1) tk (sT (rdy Y n1 q) Y.N d (q - (Y.N - 1) * n1) t) fp' w' ∧ MAt Bm 0 (msee ((m.unit 1).visits 1) (sK (rdy Y n1 q) Y.N d (q - (Y.N - 1) * n1) t)) w' ∧ Past (Bm :: fp) w w' ∧ ∀ b ∈ fp', b ∈ fp ∨ w.heap.size ≤ b) ∨
      (sG (rdy Y n1 q) Y.N d (q - (Y.N - 1) * n1) t = false ∧ e = .panicked (thrown (raisedV (a "ambler/api.ErrBroken"))) ∧ Past (Bm :: fp) w w' ∧ ∃ t', Real a w0 Y t' w') := by
  have cL := h.left
  have hs := h.small
  have d1 : (((Y.n 0 + (Y.N - 1) * n1 - q : Nat) : Int) == 0) = false := beq_eq_false_iff_ne.2 (by omega)
  have d2 : ((Y.n 0 + (Y.N - 1) * n1 - q : Nat) == 0) = false := beq_eq_false_iff_ne.2 (by omega)
  have hlt := h.lts
  have ew : IntKind.i64.wrap ((q : Int) + 1) = ((q + 1 : Nat) : Int) := by rw [IntWalk.i64_in _ (by omega)]; omega
  rcases h with ⟨hq1, rfl, Q, GB, cB, GT, cT, h, rfl⟩ | ⟨hq1, _, Q, GT, cT, GU, cU, V, h, rfl⟩
  · have e0 := rdy_no hq1
    rw [e0]
    have cR := fun W (hb : Below w.heap.size w W) => ready_any (h.read hb).row
    have cP := fun W (hb : Below w.heap.size w W) => prepare_any a w0 W Y D Q n1 d dp GB cB GT cT q q Bm m t (Y.N - 1) (by have := h.pl.N; omega) hq1 (h.read hb) (hm.below hb) hok hu hB0 hB
    have HH := Lib.hid h
    have nD := h.pl.nD
    clear h hm
    generalize Y.n 0 + (Y.N - 1) * n1 - q = lf at *
    go_enter Tryz.func31, Tryz.ntmps31
    go_wp2_with (first
      | (go_at_call 36; refine cL.mono ?_; rintro e w1 ⟨rfl, hb1⟩)
      | (go_at_call 37; refine (cR _ hb1).mono ?_; rintro e w2 ⟨rfl, rfl⟩))
    refine (cP _ hb1).mono ?_
    rintro e w3 ⟨rfl, hm3, hp3, hs3⟩
    clear cP cR cL d1 d2
    have hz1 := hb1.size
    have hpw := (Past.of (d := wrP Y D Q Bm) hb1).trans hp3
    have nB : Bm ∉ [D] := fun e => hB (by
      obtain rfl : Bm = D := by simpa using e
      simp [fpP])
    have hin : ∀ b ∈ wrP Y D Q Bm, b ∈ Bm :: fpP Y D Q GB GT := fun b hb => by
      simp only [wrP, List.mem_cons] at hb
      simp only [fpP, List.mem_cons]
      rcases hb with e | e | e | e | e
      · exact .inl e
      · exact .inr (.inr (.inr (.inl e)))
      · exact .inr (.inr (.inr (.inr (.inl e))))
      · exact .inr (.inr (.inr (.inr (.inr (.inl e)))))
      · exact .inr (.inr (.inr (.inr (.inr (.inr e)))))
    rcases hs3 with ⟨hq2, hP⟩ | ⟨hq2, V, GT', cT', GU, cU, hM, v1, v2, v3⟩
    · have hpre := hP.count (q + 1)
      have c1 := hP.row.c1
      have cf := hP.row.fz
      have hp4 : Past [D] w3 (w3.setCell ⟨D, 1, none⟩ (.int .i64 ((q + 1 : Nat) : Int))) := (Past.refl _ _).store (.inl (by simp)) _
      have HF := Lib.hid (show Pre a w0 Y D Q n1 d dp GB cB GT cT (q + 1) (q + 1) t _ ∧ MAt Bm 0 ((m.unit 1).visits 1) _ ∧ Past (Bm :: fpP Y D Q GB GT) w (w3.setCell ⟨D, 1, none⟩ (.int .i64 ((q + 1 : Nat) : Int))) from ⟨hpre, hm3.past hp4 nB, (hpw.mono hin).trans (hp4.mono (by simp [fpP]))⟩)
      clear hP hpre hm3 hpw hp3 hp4
      go_wp2
      go_ret
      exact .inl ⟨rfl, rfl, _, .inl ⟨hq2, rfl, Q, GB, cB, GT, cT, HF.out.1, rfl⟩, HF.out.2.1, HF.out.2.2, fun b hb => .inl hb⟩
    · obtain ⟨sB, hr⟩ := hM.row
      have hmov := hM.count (q + 1)
      have c1 := hr.c1
      have cf := hr.fz
      have hp4 : Past [D] w3 (w3.setCell ⟨D, 1, none⟩ (.int .i64 ((q + 1 : Nat) : Int))) := (Past.refl _ _).store (.inl (by simp)) _
      have HF := Lib.hid (show Mov a w0 Y D Q n1 d dp GT' cT' GU cU V 0 (q + 1) false t _ ∧ MAt Bm 0 ((m.unit 1).visits 1) _ ∧ Past (Bm :: fpP Y D Q GB GT) w (w3.setCell ⟨D, 1, none⟩ (.int .i64 ((q + 1 : Nat) : Int))) from ⟨hmov, hm3.past hp4 nB, (hpw.mono hin).trans (hp4.mono (by simp [fpP]))⟩)
      have HQ := Lib.hid hq2
      clear hM hmov hm3 hpw hp3 hp4 hr hq2
      go_wp2
      go_ret
      refine .inl ⟨rfl, rfl, _, .inr ⟨by have := HQ.out; omega, by have := HQ.out; omega, Q, GT', cT', GU, cU, V, ?_, rfl⟩, HF.out.2.1, HF.out.2.2, fun b hb => ?_⟩
      · rw [show q + 1 - (Y.N - 1) * n1 = 0 by have := HQ.out; omega]; exact HF.out.1
      · simp only [fpM, List.mem_cons] at hb
        rcases hb with rfl | rfl | rfl | rfl | hb
        · exact .inr (by omega)
        · exact .inr (by omega)
        · exact .inr (by omega)
        · exact .inl (by simp [fpP])
        · exact .inl (by simp only [fpP, List.mem_cons]; exact .inr (.inr (.inr (.inr (.inr hb)))))
  · have e0 := rdy_yes hq1
    rw [e0]
    obtain ⟨sB, hr0⟩ := h.row
    have cR := fun W (hb : Below w.heap.size w W) => ready_any (hr0.keep hb)
    have nB : Bm ∉ Y.tall := fun e => hB (by simp only [fpM, List.mem_cons]; exact .inr (.inr (.inr (.inr e))))
    have nBV : V ∉ Bm :: Y.tall := fun e => by
      rcases List.mem_cons.1 e with e | e
      · exact hB (by subst e; simp [fpM])
      · exact h.nV.1 e
    have hnx : q - (Y.N - 1) * n1 < Y.n 0 := by omega
    have cS := fun W (hb : Below w.heap.size w W) => evac.step_on V a w0 Y t h.pl.N d (q - (Y.N - 1) * n1) Bm m h.pl.ld hnx hok hu W (h.read hb).ev (h.read hb).re (hm.below hb) hB0 nB h.hV nBV
    have HH := Lib.hid h
    have c5 := fun W (hb : Below w.heap.size w W) => (hr0.keep hb).c5
    clear hm hr0 h
    generalize hnxe : q - (Y.N - 1) * n1 = nx at *
    generalize hlf : Y.n 0 + (Y.N - 1) * n1 - q = lf at *
    go_enter Tryz.func31, Tryz.ntmps31
    go_wp2_with (first
      | (go_at_call 36; refine cL.mono ?_; rintro e w1 ⟨rfl, hb1⟩; have c5 := c5 _ hb1)
      | (go_at_call 37; refine (cR _ hb1).mono ?_; rintro e w2 ⟨rfl, rfl⟩))
    refine (cS _ hb1).mono ?_
    have hin : ∀ b ∈ V :: Bm :: Y.tall, b ∈ Bm :: fpM Y D GT GU V := fun b hb => by
      simp only [List.mem_cons] at hb
      simp only [fpM, List.mem_cons]
      rcases hb with e | e | e
      · exact .inr (.inr (.inr (.inl e)))
      · exact .inl e
      · exact .inr (.inr (.inr (.inr (.inr e))))
    rintro e w3 (⟨hg, rfl, hr3, hE3, hm3, hp3⟩ | ⟨hg, rfl, hp3, hx⟩)
    · have hM := ((HH.out.read hb1).moved hp3 hB hr3 hE3)
      obtain ⟨sB', hr⟩ := hM.row
      have hmov := hM.count (q + 1)
      have c1 := hr.c1
      have cf := hr.fz
      have hp4 : Past [D] w3 (w3.setCell ⟨D, 1, none⟩ (.int .i64 ((q + 1 : Nat) : Int))) := (Past.refl _ _).store (.inl (by simp)) _
      have nBD : Bm ∉ [D] := fun e => hB (by
        obtain rfl : Bm = D := by simpa using e
        simp [fpM])
      have hpw := (Past.of (d := Bm :: fpM Y D GT GU V) hb1).trans (hp3.mono hin)
      have HF := Lib.hid (show Mov a w0 Y D Q n1 d dp GT cT GU cU V (nx + 1) (q + 1) tk (tak (mvs Y.N d t (lst t nx)) nx) _ ∧ MAt Bm 0 (msee ((m.unit 1).visits 1) (lkc Y.N d t (lst t nx))) _ ∧ Past (Bm :: fpM Y D GT GU V) w (w3.setCell ⟨D, 1, none⟩ (.int .i64 ((q + 1 : Nat) : Int))) from ⟨hmov, hm3.past hp4 nBD, hpw.trans (hp4.mono (by simp [fpM]))⟩)
      clear hM hmov hm3 hpw hp3 hp4 hr hr3 hE3 cS cR cL d1 d2 c5
      go_wp2
      go_ret
      refine .inl ⟨by unfold sG; rw [hg]; rfl, rfl, _, .inr ⟨by omega, by omega, Q, GT, cT, GU, cU, V, ?_, rfl⟩, HF.out.2.1, HF.out.2.2, fun b hb => .inl hb⟩
      rw [show q + 1 - (Y.N - 1) * n1 = nx + 1 by omega]; exact HF.out.1
    · have HP := Lib.hid ((Past.of (d := Bm :: fpM Y D GT GU V) hb1).trans (hp3.mono hin))
      exact ⟨rfl, .inr ⟨by unfold sG; rw [hg]; rfl, rfl, HP.out, hx⟩⟩
end
end Go.Proofs.YteedbnoefnlidaaGreatDoor.dual
