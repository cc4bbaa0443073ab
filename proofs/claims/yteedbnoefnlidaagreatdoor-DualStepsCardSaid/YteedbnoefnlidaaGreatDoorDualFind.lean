/- dual: Find, over the tables in which a key is looked for. -/
import Derived.Test.YteedbnoefnlidaaGreatDoorDualAt
import Derived.LoopTactic
namespace Go.Proofs.YteedbnoefnlidaaGreatDoor.evac
open Go.ChangeShapes Go.WideShapes Go.ChangeAt Go.RowKit Go.Shelf swar under trap meter group probe lens tail call table
set_option linter.unusedSimpArgs false
set_option linter.unusedVariables false
section
variable {a : String → Addr} {w0 : World} {Y : Lay} {t : Nat → Tb} {W W' : World} {L : Ln} {m m' : Mt}
/-- what a call of one of the tables asks, by any lens -/
theorem Real.rdL (h : Real a w0 Y t W) {i : Nat} (hi : i < Y.N) (hl : LnAt L m W) (hd : ∀ b ∈ L.d, w0.heap.size ≤ b ∧ b ∉ Y.tall) : Ready a (Y.T i) (Y.B i) (t i) L m W :=
  ⟨h.at' i hi, h.ok i hi, hl, (fun b hb => Ot.pair (hd b hb).2 hi), h.base.bits.below h.bel h.base.bits.lt, (fun b hb => Nat.le_trans h.base.far (hd b hb).1), Nat.le_trans h.base.far (h.new _ (Lay.tin hi (by simp))), Nat.le_trans h.base.far (h.new _ (Lay.tin hi (by simp))), h.base.six.below h.bel⟩
theorem Real.lnL (h : Real a w0 Y t W) (hd : ∀ b ∈ L.d, w0.heap.size ≤ b ∧ b ∉ Y.tall) (hs : LnStep [] L m' W W') : Real a w0 Y t W' := h.past (d := L.d) (by simpa using hs.past) hd
theorem Real.tlL (h : Real a w0 Y t W) {i : Nat} (hi : i < Y.N) (hd : ∀ b ∈ L.d, w0.heap.size ≤ b ∧ b ∉ Y.tall) {t' : Tb} (hs : TL (Y.T i) (Y.B i) t' L m' W W') (ok : t'.Ok) (hn : t'.n = (t i).n) : Real a w0 Y (up t i t') W' := h.step hi hs.ln.past hs.at' ok (hn.trans (h.tn i hi)) hd
end
end Go.Proofs.YteedbnoefnlidaaGreatDoor.evac
namespace Go.Proofs.YteedbnoefnlidaaGreatDoor.dual
open Go.ChangeShapes Go.WideShapes Go.ChangeAt Go.RowKit Go.Shelf swar under trap meter group probe lens tail call table evac
attribute [local go_sem] Oper.semAt_some stage.pureUpon move.stepUpon
set_option linter.unusedSimpArgs false
set_option linter.unusedVariables false

/-- where the tables lie -/
def ptrs (Y : Lay) (J : List Nat) : List (Option Addr) := J.map fun i => some ⟨Y.T i, 0, none⟩
theorem ptrs_at {Y : Lay} {J : List Nat} {o : Option Addr} {W : World} (h : PtrsAt o (ptrs Y J) W) {j : Nat} (hj : j < J.length) : ∃ x, o = some x ∧ W.cell? (x.add j) = some (.pointer (some ⟨Y.T J[j], 0, none⟩)) := by
  obtain ⟨x, h1, h2⟩ := h j (by simpa [ptrs] using hj)
  exact ⟨x, h1, by simpa [ptrs] using h2⟩
/-- between two tables -/
structure FnI (a : String → Addr) (w0 w : World) (Y : Lay) (t : Nat → Tb) (key hs : Nat) (L : Ln) (m : Mt) (J : List Nat) (o : Option Addr) (j : Nat) (W : World) : Prop where
  re : Real a w0 Y t W
  ln : LnStep [] L (L.see m (fndK t key hs (J.take j))) w W
  off : ∀ i ∈ J.take j, isThere (t i) key hs = false
  bx : W.cell? ⟨w.heap.size, 0, none⟩ = some (.pointer L.p)
  rs : EBox (w.heap.size + 1) 0 0 0 W
  ps : PtrsAt o (ptrs Y J) W
section
variable {a : String → Addr} {w0 w : World} {Y : Lay} {t : Nat → Tb} {key hs : Nat} {L : Ln} {m : Mt} {J : List Nat} {o : Option Addr} {j : Nat} {W W' : World}
theorem FnI.read (h : FnI a w0 w Y t key hs L m J o j W) (hb : Below W.heap.size W W') : FnI a w0 w Y t key hs L m J o j W' :=
  ⟨h.re.read hb, h.ln.below hb, h.off, keepc hb h.bx, h.rs.keep hb, h.ps.below hb⟩
/-- one more table is looked at, that doesn't have it -/
theorem FnI.next (h : FnI a w0 w Y t key hs L m J o j W) (hj : j < J.length) (hd : ∀ b ∈ L.d, w0.heap.size ≤ b ∧ b ∉ Y.tall) (hlt : ∀ b ∈ L.d, b < w.heap.size) (ho : ∀ x, o = some x → ∀ b ∈ L.d, x.block ≠ b) (ht : isThere (t J[j]) key hs = false) (hst : LnStep [] L (L.see (L.see m (fndK t key hs (J.take j))) (looks (t J[j]) key hs)) W W') : FnI a w0 w Y t key hs L m J o (j + 1) W' := by
  have nX : ∀ x, w.heap.size ≤ x → x ∉ ([] : List Nat) ++ L.d := fun x hx e => by have := hlt x (by simpa using e); omega
  refine ⟨h.re.lnL hd hst, ?_, off_snoc hj h.off ht, hst.past.cell h.bx (nX _ (Nat.le_refl _)), h.rs.past hst.past (nX _ (by omega)), fun i hi => ?_⟩
  · rw [fndK_snoc hj h.off, L.see_add]; exact h.ln.trans hst
  · obtain ⟨x, h1, h2⟩ := h.ps i hi
    refine ⟨x, h1, ?_⟩
    have hb : (x.add i).block = x.block := by unfold Addr.add; split <;> rfl
    have hlt' := World.block_lt_of_cell? _ _ h2
    refine (World.cell?_of_block (w := W) (hst.past.block _ hlt' fun e => ?_)).trans h2
    exact ho x h1 _ (by simpa using e) hb.symm
end
set_option maxRecDepth 20000 in
set_option maxHeartbeats 1000000 in
theorem find_core (a : String → Addr) (w0 : World) (Y : Lay) (t : Nat → Tb) (D key hs : Nat) (hk : key < 18446744073709551616) (hh : hs < 18446744073709551616) (L : Ln) (m : Mt) (J : List Nat) (hJ : J.length ≤ 3) (hJN : ∀ i ∈ J, i < Y.N) (w : World) (hr : Real a w0 Y t w) (hl : LnAt L m w) (hd : ∀ b ∈ L.d, w0.heap.size ≤ b ∧ b ∉ Y.tall)
    (cW : ∀ W, Below w.heap.size w W → Calls Tryz.prog 49 #[.pointer (some ⟨D, 0, none⟩), .int .u64 (hs : Nat)] W fun e w' => ∃ o c, e = .returned (.slice o J.length c) ∧ PtrsAt o (ptrs Y J) w' ∧ (∀ x, o = some x → x.block ∉ L.d ∧ x.block ∉ Y.tall ∧ (x.block < w.heap.size ∨ W.heap.size ≤ x.block)) ∧ Below W.heap.size W w') :
    Calls Tryz.prog 18 #[.pointer (some ⟨D, 0, none⟩), .agg #[.pointer L.p], .int .u64 (key : Nat), .int .u64 (hs : Nat)] w fun e w' => e = .returned (.tuple #[group.entV (fndE t key hs J).key (fndE t key hs J).val (fndE t key hs J).hash, .bool (fnd t key hs J).isSome]) ∧ LnStep [] L (L.see m (fndK t key hs J)) w w' := by
  have hlt := hl.lt
  have hb2 := two_new w (.cells #[.pointer L.p] 55) (.cells #[.int .u64 0, .int .u64 0, .int .u64 0] 43)
  have hX := keepc (new_block (w.alloc (.cells #[.pointer L.p] 55)) (.cells #[.int .u64 0, .int .u64 0, .int .u64 0] 43)) (newc w (.pointer L.p) 55)
  have hV := EBox.second 0 0 0 w (.cells #[.pointer L.p] 55)
  have HR := Lib.hid hr
  have HL := Lib.hid hl
  clear hr hl
  go_enter Tryz.func18, Tryz.ntmps18
  go_wp2_with (fail)
  refine (cW _ hb2).mono ?_
  rintro e w1 ⟨o, c, rfl, hP, ho, hb1⟩
  have hb12 := under.below_step hb2 hb1
  have HI := Lib.hid (show FnI a w0 w Y t key hs L m J o 0 w1 from ⟨HR.out.read hb12, .of _ HL.out hb12, fun i hi => (by simp at hi), keepc hb1 hX, hV.keep hb1, hP⟩)
  have HO := Lib.hid ho
  clear hX hV hP ho cW hb2 hb1 hb12
  go_wp2_with (fail)
  go_loopw [18] (fun i wr => ∃ j : Nat, j ≤ J.length ∧ i = .int .i64 j ∧ Hid (FnI a w0 w Y t key hs L m J o j wr)) (fun i _ => J.length - (intOf i).toNat)
  case atStart => exact ⟨0, by omega, rfl, HI⟩
  case round =>
    obtain ⟨j, hj, rfl, HF⟩ := hrel
    clear HI
    rcases Nat.lt_or_ge j J.length with hjl | hjl
    · have hji : (j : Int) < (J.length : Int) := by omega
      obtain ⟨x, rfl, hc⟩ := ptrs_at HF.out.ps hjl
      have hi := hJN _ (List.getElem_mem hjl)
      have cF := find_tab (HF.out.re.rdL hi HF.out.ln.at' hd) key hs hk hh
      have hbx := HF.out.bx
      have HN := Lib.hid (fun (W' : World) ht hst => HF.out.next (W' := W') hjl hd hlt (fun x hx b hb e => (HO.out x hx).1 (by rw [e]; exact hb)) ht hst)
      have HA := Lib.hid (fun ht => fnd_at (key := key) (h := hs) (t := t) hjl HF.out.off ht)
      have HE : Hid (isThere (t J[j]) key hs = true → fndE t key hs J = entOf (t J[j]) key hs) := Lib.hid fun ht => by
        unfold fndE; rw [(fnd_at hjl HF.out.off ht).1]
      generalize J[j] = i at *
      generalize hen : entOf (t i) key hs = en at *
      generalize hit : isThere (t i) key hs = it at *
      cases it with
      | false =>
        clear HA HE
        go_wp2_with (go_at_call 60; refine cF.mono ?_; rintro e w2 ⟨rfl, hs2⟩; have HN2 := Lib.hid ((HN.out _ rfl hs2).read (new_block w2 (.cells #[.int .u64 (en.key : Nat), .int .u64 (en.val : Nat), .int .u64 (en.hash : Nat)] 43))); clear hs2 cF HN)
        go_roundw
        case rel => exact ⟨j + 1, by omega, by simp, HN2⟩
        case measure => simp [intOf]; omega
      | true =>
        obtain ⟨e1, e2⟩ := HA.out rfl
        have e3 := HE.out rfl
        have HS := Lib.hid HF.out.ln
        have hrs := HF.out.rs
        clear HN HA HE
        go_wp2_with (go_at_call 60; refine cF.mono ?_; rintro e w2 ⟨rfl, hs2⟩; have hr2 := (hrs.past hs2.past (fun e => by have := hlt _ (by simpa using e); omega)).keep (new_block w2 (.cells #[.int .u64 (en.key : Nat), .int .u64 (en.val : Nat), .int .u64 (en.hash : Nat)] 43)); have hE2 := EBox.new en.key en.val en.hash w2; have y0 := hE2.c0; have y1 := hE2.c1; have y2 := hE2.c2; have x0 := hr2.c0; have x1 := hr2.c1; have x2 := hr2.c2; have x3 := hr2.fz; have hz := hs2.past.size; have hlr := hrs.lt; have hnx : w2.heap.size ≠ w.heap.size + 1 := (by omega))
        refine bodyPost_ret (v := .tuple #[group.entV en.key en.val en.hash, .bool true]) (by simp [results, Tryz.results18, go_sem, x0, x1, x2]) rfl ⟨by rw [e1, e3]; rfl, ?_⟩
        rw [e2, L.see_add]
        have hS := (HS.out.trans hs2).below (new_block w2 (.cells #[.int .u64 (en.key : Nat), .int .u64 (en.val : Nat), .int .u64 (en.hash : Nat)] 43))
        exact ((hS.newset hlt (by simp) _).newset hlt (by simp) _).newset hlt (by simp) _
    · obtain rfl : j = J.length := by omega
      have hoff := HF.out.off
      have hS := HF.out.ln
      rw [List.take_length] at hoff hS
      have hrs := HF.out.rs
      have x0 := hrs.c0
      have x1 := hrs.c1
      have x2 := hrs.c2
      have x3 := hrs.fz
      have e1 := fnd_off hoff
      have e3 : fndE t key hs J = ⟨1, 0, 0, 0⟩ := by unfold fndE; rw [e1]
      clear hrs hoff
      go_wp2
      refine bodyPost_ret (v := .tuple #[group.entV 0 0 0, .bool false]) (by simp [results, Tryz.results18, go_sem, x0, x1, x2]) rfl ⟨by rw [e1, e3]; rfl, ?_⟩
      exact ((hS.newset hlt (by simp) _).newset hlt (by simp) _).newset hlt (by simp) _
end Go.Proofs.YteedbnoefnlidaaGreatDoor.dual
