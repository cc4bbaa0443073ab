/- evac: Step. -/
import Derived.Test.YtibcokiijlamcaaGreatDoorEvacAt
import Derived.Test.YtibcokiijlamcaaGreatDoorTriple
import Derived.LoopTactic
namespace Go.Proofs.YtibcokiijlamcaaGreatDoor.evac
open Go.ChangeShapes Go.WideShapes Go.ChangeAt Go.RowKit Go.Shelf swar under trap meter group probe lens tail call table
attribute [local go_sem] Oper.semAt_some stage.pureUpon stage.callUpon move.stepUpon
set_option linter.unusedSimpArgs false
set_option linter.unusedVariables false

theorem must_ents (v : Value) (w : World) : Calls Tryz.prog 70 #[v, .nilIface] w fun e w' => e = .returned v ∧ w = w' := by
  go_enter Tryz.func70, Tryz.ntmps70
  go_wp2_with (go_at_call 68; refine (raise_nil _).mono ?_; rintro e w1 ⟨rfl, rfl⟩)
  go_ret
  exact ⟨rfl, rfl⟩
theorem good1_put (N d : Nat) (u : Nat → Tb) (e : Sl) : good1 N d u e = putB' (u (tgt N d e.hash)) e.key e.hash := by
  unfold good1 putE' putB'
  cases isThere (u (tgt N d e.hash)) e.key e.hash <;> simp
/-- what Place of the spot of a search answers -/
def plcE (t : Tb) (key hs : Nat) : Nat := if isThere t key hs = true then 16 else roomE t key hs
theorem plc_put (t : Tb) (key hs : Nat) : putB' t key hs = decide (plcE t key hs = 0) := by
  unfold putB' plcE; cases isThere t key hs <;> simp
theorem vplace_at {a : String → Addr} {w0 : World} {Y : Lay} {t : Nat → Tb} {W : World} (h : Real a w0 Y t W) {i : Nat} (hi : i < Y.N) (key hs v : Nat) (hk : key < 18446744073709551616) (hh : hs < 18446744073709551616) (hv : v < 18446744073709551616) :
    Calls Tryz.prog 60 #[spotV (Y.T i) (Y.B i) key hs (lastG (t i) key hs) (roomG (t i) key hs), group.entV key v hs] W fun e w' => e = .returned (errAt a (plcE (t i) key hs)) ∧ Real a w0 Y (if putB' (t i) key hs = true then up t i ((t i).puts key hs v) else t) w' ∧ Past Y.tall W w' := by
  cases ht : isThere (t i) key hs
  · have ep : plcE (t i) key hs = roomE (t i) key hs := by unfold plcE; rw [ht]; rfl
    rw [ep]
    refine ((h.rd hi).place key hs v hh ht).mono fun e w' ⟨he, hs'⟩ => ⟨he, ?_⟩
    by_cases hr : roomE (t i) key hs = 0
    · have hp : putB' (t i) key hs = true := by unfold putB'; rw [ht, hr]; rfl
      have ep : (t i).puts key hs v = (t i).place key hs v := by unfold Tb.puts; rw [ht]; rfl
      rw [if_pos hp, ep]
      exact h.tstep hi hs' ((h.ok i hi).place hk hh hv) (place_n ..)
    · have hp : putB' (t i) key hs = false := by unfold putB'; rw [ht]; simp [hr]
      rw [place_no hr] at hs'
      obtain ⟨h1, h2⟩ := h.tstep hi hs' (h.ok i hi) rfl
      rw [up_self] at h1
      rw [if_neg (by simp [hp])]
      exact ⟨h1, h2⟩
  · have hp : putB' (t i) key hs = false := by unfold putB'; rw [ht]; rfl
    have ep : plcE (t i) key hs = 16 := by unfold plcE; rw [ht]; rfl
    rw [ep, if_neg (by simp [hp])]
    exact ((h.rd hi).dup key hs hh ht key v hs).mono fun e w' ⟨he, hb⟩ => ⟨he, h.read hb, Past.of hb⟩
set_option maxRecDepth 100000 in
theorem place_any (V : Nat) (a : String → Addr) (w0 : World) (Y : Lay) (t : Nat → Tb) (hN : Y.N = 2 ∨ Y.N = 3) (d next Bm : Nat) (m : Mt) (hd : d ≤ 15) (en : Sl) (hok : en.Ok) (w : World) (hE : EvAt V Y d next w) (h : Real a w0 Y t w) (hm : MAt Bm 0 m w) (hB0 : w0.heap.size ≤ Bm) (ho : Bm ∉ Y.tall) (nV : V ∉ Bm :: Y.tall) :
    Calls Tryz.prog 71 #[.pointer (some ⟨V, 0, none⟩), .agg #[.pointer (some ⟨Bm, 2, none⟩)], group.entV en.key en.val en.hash] w fun e w' => e = .returned (.bool (good1 Y.N d t en)) ∧ Real a w0 Y (if good1 Y.N d t en = true then mv1 Y.N d t en else t) w' ∧ MAt Bm 0 (msee m (looks (t (tgt Y.N d en.hash)) en.key en.hash)) w' ∧ Past (Bm :: Y.tall) w w' := by
  obtain ⟨_, hkey, hval, hhash, _⟩ := hok
  rw [good1_put]
  unfold mv1
  have hst : tgt Y.N d en.hash < Y.N := tgt_lt hN d en.hash
  have hb2 := two_new w (.cells #[.pointer (some ⟨Bm, 2, none⟩)] 66) (.cells #[.int .u64 (en.key : Nat), .int .u64 (en.val : Nat), .int .u64 (en.hash : Nat)] 60)
  have hz1 := World.size_alloc w (.cells #[.pointer (some ⟨Bm, 2, none⟩)] 66)
  have hX := keepc (new_block _ (.cells #[.int .u64 (en.key : Nat), .int .u64 (en.val : Nat), .int .u64 (en.hash : Nat)] 60)) (newc w (.pointer (some ⟨Bm, 2, none⟩)) 66)
  have hV := EBox.second en.key en.val en.hash w (.cells #[.pointer (some ⟨Bm, 2, none⟩)] 66)
  have hlm : ∀ x ∈ Bm :: Y.tall, x < w.heap.size := fun x hx => by
    rcases List.mem_cons.1 hx with rfl | hx
    · exact hm.lt
    · exact h.lt x hx
  have hE2 := hE.keep hb2
  have h2 := h.read hb2
  have hm2 := hm.below hb2
  have ep := plc_put (t (tgt Y.N d en.hash)) en.key en.hash
  generalize hti : tgt Y.N d en.hash = i at *
  generalize hpe : plcE (t i) en.key en.hash = pe at *
  generalize hgb : putB' (t i) en.key en.hash = gb at *
  have n0 : w.heap.size ∉ Bm :: Y.tall := fun e => by have := hlm _ e; omega
  have n1 : w.heap.size + 1 ∉ Bm :: Y.tall := fun e => by have := hlm _ e; omega
  go_enter Tryz.func71, Tryz.ntmps71
  go_wp2
  generalize (w.alloc (.cells #[.pointer (some ⟨Bm, 2, none⟩)] 66)).alloc (.cells #[.int .u64 (en.key : Nat), .int .u64 (en.val : Nat), .int .u64 (en.hash : Nat)] 60) = W0 at *
  have hd0 := under.drew_below W0
  have pm : ∀ {x y : World}, Past [Bm] x y → Past (Bm :: Y.tall) x y := fun hp => hp.mono fun b hb => by
    obtain rfl : b = Bm := by simpa using hb
    exact List.mem_cons_self
  obtain ⟨D, d0, c1, c2, c3, d3, dA, hne⟩ := stage.triple (W0 := W0.drew) (S1 := fun w' => Below W0.heap.size W0 w')
    (S2 := fun w' => Real a w0 Y t w' ∧ MAt Bm 0 (msee m (looks (t i) en.key en.hash)) w' ∧ Past (Bm :: Y.tall) W0 w')
    (S3 := fun w' => Real a w0 Y (if gb = true then up t i ((t i).puts en.key en.hash en.val) else t) w' ∧ MAt Bm 0 (msee m (looks (t i) en.key en.hash)) w' ∧ Past (Bm :: Y.tall) W0 w')
    ((target_any V Y hN d next en.hash hd hhash W0.drew (hE2.keep hd0)).mono fun e w' ⟨he, hb⟩ => ⟨by rw [hti] at he; exact he, under.below_step hd0 hb⟩)
    (fun wa s1 => (vseek_any (h2.read s1) hst (hm2.below s1) hB0 ho en.key en.hash hkey hhash).mono fun e w' ⟨he, q1, q2, q3⟩ => ⟨he, q1, q2, (Past.of s1).trans (pm q3)⟩)
    (fun wa s2 => (vplace_at s2.1 hst en.key en.hash en.val hkey hhash hval).mono fun e w' ⟨he, q1, q2⟩ => ⟨by rw [hpe] at he; exact he, by rw [hgb] at q1; exact q1, s2.2.1.past q2 ho, s2.2.2.trans (q2.mono fun b hb => List.mem_cons_of_mem _ hb)⟩)
  have hdp : Past (Bm :: Y.tall) W0 W0.drew := Past.of hd0
  have f0 := dA (fun w' => w'.cell? ⟨w.heap.size, 0, none⟩ = some (.pointer (some ⟨Bm, 2, none⟩))) (hdp.cell hX n0) (fun w' s => (Past.of s).cell hX n0) (fun w' s => s.2.2.cell hX n0) (fun w' s => s.2.2.cell hX n0)
  have f1 := dA (fun w' => w'.cell? ⟨w.heap.size + 1, 0, none⟩ = some (.int .u64 (en.key : Nat))) (hdp.cell hV.c0 n1) (fun w' s => (Past.of s).cell hV.c0 n1) (fun w' s => s.2.2.cell hV.c0 n1) (fun w' s => s.2.2.cell hV.c0 n1)
  have f2 := dA (fun w' => w'.cell? ⟨w.heap.size + 1, 1, none⟩ = some (.int .u64 (en.val : Nat))) (hdp.cell hV.c1 n1) (fun w' s => (Past.of s).cell hV.c1 n1) (fun w' s => s.2.2.cell hV.c1 n1) (fun w' s => s.2.2.cell hV.c1 n1)
  have f3 := dA (fun w' => w'.cell? ⟨w.heap.size + 1, 2, none⟩ = some (.int .u64 (en.hash : Nat))) (hdp.cell hV.c2 n1) (fun w' s => (Past.of s).cell hV.c2 n1) (fun w' s => s.2.2.cell hV.c2 n1) (fun w' s => s.2.2.cell hV.c2 n1)
  have C1 := Lib.hid c1
  have C2 := Lib.hid c2
  have C3 := Lib.hid c3
  have D3 := Lib.hid d3
  have HB := Lib.hid hb2
  clear hpe hgb c1 c2 c3 d3 dA hV hX hb2 hE2 h2 hm2 hlm n0 n1 hE h hm hdp hd0 hz1
  refine (wpIn_wide (n := 3)).1 ?_
  refine move.region (D := D) 14 [false, false, false, true, false, false, false, false, false, true, false, true, false, false] (by kernel_rfl) (by kernel_rfl) (by kernel_rfl) d0 ?_
  clear d0
  simp only [List.take_succ_cons, List.take_zero, List.drop_succ_cons, List.drop_zero]
  iterate 3 (refine move.pure_step (fun _ _ _ => trivial) (fun K hK => ?_); go_simp; refine hK _ ?_; clear hK K)
  refine move.move_step (v := .pointer (some ⟨Y.T i, 0, none⟩)) (fun _ _ _ => trivial) (by kernel_rfl) (fun wd hd => ?_) (fun K hK => ?_)
  · go_simp
    exact callsIn_wide.2 (C1.out _ hd)
  refine hK _ ?_
  clear hK K
  go_simp
  iterate 5 (refine move.pure_step (fun _ _ _ => trivial) (fun K hK => ?_); go_simp; refine hK _ ?_; clear hK K)
  refine move.move_step (v := spotV (Y.T i) (Y.B i) en.key en.hash (lastG (t i) en.key en.hash) (roomG (t i) en.key en.hash)) (fun _ _ _ => trivial) (by kernel_rfl) (fun wd hd => ?_) (fun K hK => ?_)
  · go_simp
    exact callsIn_wide.2 (C2.out _ hd)
  refine hK _ ?_
  clear hK K
  go_simp
  iterate 1 (refine move.pure_step (fun _ _ _ => trivial) (fun K hK => ?_); go_simp; refine hK _ ?_; clear hK K)
  refine move.move_step (v := errAt a pe) (fun _ _ _ => trivial) (by kernel_rfl) (fun wd hd => ?_) (fun K hK => ?_)
  · go_simp
    exact callsIn_wide.2 (C3.out _ hd)
  refine hK _ ?_
  clear hK K C1 C2 C3
  cases pe with
  | zero =>
    obtain rfl : gb = true := ep.trans (by decide)
    clear ep
    rw [show errAt a 0 = .nilIface from rfl]
    go_simp
    iterate 2 (refine move.pure_step (fun _ _ _ => trivial) (fun K hK => ?_); go_simp; refine hK _ ?_; clear hK K)
    refine move.nil_step (fun w3 h3 => ?_)
    have HR := Lib.hid (D3.out _ h3)
    clear f0 f1 f2 f3 hne h3 D3
    gi_wp2
    go_wp2
    go_ret
    exact ⟨rfl, HR.out.1, HR.out.2.1, (Past.of HB.out).trans HR.out.2.2⟩
  | succ k =>
    obtain rfl : gb = false := ep.trans (decide_eq_false (by omega))
    clear ep
    obtain ⟨x, hx⟩ : ∃ x, errAt a (k + 1) = errs.errV x := ⟨_, rfl⟩
    rw [hx]
    go_simp
    iterate 2 (refine move.pure_step (fun _ _ _ => trivial) (fun K hK => ?_); go_simp; refine hK _ ?_; clear hK K)
    refine move.nil_step (fun w3 h3 => ?_)
    have HR := Lib.hid (D3.out _ h3)
    clear f0 f1 f2 f3 hne h3 D3
    gi_wp2
    go_wp2
    go_ret
    exact ⟨rfl, HR.out.1, HR.out.2.1, (Past.of HB.out).trans HR.out.2.2⟩
end Go.Proofs.YtibcokiijlamcaaGreatDoor.evac
