/- The iterator of package probe, for every loop body that is told a place below the number of groups. -/
import Derived.Test.YtplhgcidegngiaaDoorProbeWalk
namespace Go.Proofs.YtplhgcidegngiaaDoor.probe
open Go.ChangeShapes Go.WideShapes Go.ChangeAt Go.RowKit Go.Shelf
attribute [local go_sem] Oper.semAt_some

/-- the places of a walk as far as place number j, as numbers below n -/
def wljF (h n : Nat) (hn : 0 < n) (j : Nat) : List (Fin n) := (List.range j).map fun i => ⟨plc h n i, plc_lt hn⟩
theorem wljF_succ (h n : Nat) (hn : 0 < n) (j : Nat) : wljF h n hn (j + 1) = wljF h n hn j ++ [⟨plc h n j, plc_lt hn⟩] := by simp [wljF, List.range_succ]
theorem wljF_length (h n : Nat) (hn : 0 < n) (j : Nat) : (wljF h n hn j).length = j := by simp [wljF]
theorem wljF_val (h n : Nat) (hn : 0 < n) (j : Nat) : (wljF h n hn j).map Fin.val = wlj h n j := by simp [wljF, wlj, Function.comp_def]
set_option maxRecDepth 100000 in
set_option maxHeartbeats 1000000 in
theorem walk1_inF (n : Nat) (hn : 1 ≤ n) (l Bg Bh : Nat) (h k : Nat) (hok : okN k) (J Jx : List (Fin k) → World → Prop)
    (hY : ∀ pre x W, J pre W → pre.length < k → YieldAt Fence.wide (n - 1) Tryd.prog l #[.int .i64 (x.val : Nat)] W fun e W' =>
      (e = .returned (.bool true) ∧ J (pre ++ [x]) W' ∧ KeepB Bg Bh W W') ∨ (e = .returned (.bool false) ∧ Jx (pre ++ [x]) W'))
    (W : World) (hBg : W.cell? ⟨Bg, 0, none⟩ = some (.int .i64 (k : Nat))) (hBh : W.cell? ⟨Bh, 0, none⟩ = some (.int .u64 h)) (h0 : J [] W) :
    CallsIn Fence.wide n Tryd.prog 54 #[.func (.yield l) #[] #[], .pointer (some ⟨Bg, 0, none⟩), .pointer (some ⟨Bh, 0, none⟩)] W fun e W' => (∃ v, e = .returned v) ∧
      ((∃ ys : List (Fin k), ys.map Fin.val = wl h k ∧ J ys W') ∨ (∃ pre : List (Fin k), pre.map Fin.val <+: wl h k ∧ Jx pre W')) := by
  have hp := okN_pos hok
  have hl := okN_le hok
  refine callsIn_of_wp Tryd.func54 rfl trivial ?_ rfl
  simp only [Tryd.ntmps54, List.size_toArray, List.length_cons, List.length_nil, Nat.reduceAdd, Nat.reduceSub, Array.replicate_succ, Array.replicate_zero, List.push_toArray, List.append_toArray, List.nil_append, List.cons_append]
  gi_wp2_with (refine ⟨trivial, ?_⟩; gi_at_call 32; refine (callsIn_wide.2 (right_yes k hok _)).mono ?_; rintro e w' ⟨rfl, rfl⟩)
  gi_loopw [9] (fun v wr => ∃ j : Nat, j ≤ k ∧ v = .int .i64 j ∧ wr.cell? ⟨Bg, 0, none⟩ = some (.int .i64 (k : Nat)) ∧ wr.cell? ⟨Bh, 0, none⟩ = some (.int .u64 h) ∧ J (wljF h k hp j) wr)
    (fun v _ => k - (intOf v).toNat)
  case atStart => exact ⟨0, by omega, rfl, hBg, hBh, h0⟩
  case round =>
    obtain ⟨j, hj, rfl, cg, ch, hJs⟩ := hrel
    by_cases hlt : j < k
    · gi_wp2_with (refine ⟨trivial, ?_⟩; gi_at_call 55; refine (callsIn_wide.2 (place_any h k j hok hlt _)).mono ?_; rintro e w' ⟨rfl, rfl⟩; obtain ⟨fn, tmps, assign, body, hy, hR⟩ := hY (wljF h k hp j) ⟨plc h k j, plc_lt hp⟩ wr hJs (by rw [wljF_length]; exact hlt))
      refine hR.mono ?_
      rintro e W3 (⟨rfl, hJ3, hk3⟩ | ⟨rfl, hJx3⟩)
      · have cg3 := hk3.1.trans cg
        have ch3 := hk3.2.trans ch
        gi_wp2
        go_roundw
        case rel => exact ⟨j + 1, by omega, by go_num, cg3, ch3, by rw [wljF_succ]; exact hJ3⟩
        case measure => simp [intOf]; omega
      · gi_wp2
        refine bodyPost_ret (results_none rfl _ _ _) rfl ?_
        exact ⟨⟨_, rfl⟩, .inr ⟨_, by rw [← wljF_succ, wljF_val]; exact wlj_prefix h k (j + 1) (by omega), hJx3⟩⟩
    · obtain rfl : j = k := by omega
      gi_wp2
      go_end0
      exact ⟨⟨_, rfl⟩, .inl ⟨_, by rw [wljF_val]; rfl, hJs⟩⟩
theorem walk_stopsF (n : Nat) (hn : 1 ≤ n) (Bg Bh : Nat) (h k : Nat) (hok : okN k) (w : World) (hBg : Bg < w.heap.size) (hBh : Bh < w.heap.size)
    (cg : w.cell? ⟨Bg, 0, none⟩ = some (.int .i64 (k : Nat))) (ch : w.cell? ⟨Bh, 0, none⟩ = some (.int .u64 h)) :
    SeqStopsK Fence.wide n Tryd.prog 54 #[.pointer (some ⟨Bg, 0, none⟩), .pointer (some ⟨Bh, 0, none⟩)] (fun x : Fin k => #[Value.int .i64 (x.val : Nat)]) (KeepB Bg Bh) (fun ys => ys.map Fin.val = wl h k) (fun pre => pre.map Fin.val <+: wl h k) k w := fun l J Jx W hW _ _ hY h0 =>
  walk1_inF n hn l Bg Bh h k hok J Jx hY W ((hW.cell (p := ⟨Bg, 0, none⟩) hBg).trans cg) ((hW.cell (p := ⟨Bh, 0, none⟩) hBh).trans ch) h0
end Go.Proofs.YtplhgcidegngiaaDoor.probe
