/- Probe: several texts in one: plain facts and laws for the walks. No program is named. -/
import Derived.Test.YtdplhgpeggcmdaaGreatDoorRows
import Derived.Test.YtdplhgpeggcmdaaGreatDoorMath
import Derived.WalkKit
import Derived.ProofKit
import Derived.BigQuiet
import Derived.Deep.QuietTactic
import Derived.WalkSpells
import Derived.WalkLawsBesides
import Derived.RegionTactic
import Derived.LoopN
import Derived.Outline
import Derived.Lib.Hide
import Derived.RangeFuncNested
import Derived.RangeFuncBound
import Derived.RangeFuncCalls
import Derived.RangeFuncLeaves
import Derived.RangeFuncBox
import Derived.Shelf.Abstract
import Derived.Shelf.RegionOpen
import Derived.OwnWalkIn
import Derived.TacticsInMore
import Derived.LoopNIn
import Derived.LoopIn

/-! ### The contracts of package probe's functions but for the walk: each call hands back what is said, and memory is as it was. -/
namespace Go.Proofs.YtdplhgpeggcmdaaGreatDoor.probe
open Go.ChangeShapes Go.WideShapes Go.ChangeAt Go.RowKit

theorem ret_int {k:IntKind} {a b:Int} (h:a = b):Ending.returned (.int k a) = .returned (.int k b):=by rw [h]

theorem right_yes (n:Nat) (h:okN n) (w:World) :
  Calls Tryz.prog 117 #[.int .i64 n] w fun e w' => e = .returned (.bool true) ∧ w = w':=by
 have hp:=okN_pos h
 have hl:=okN_le h
 have ha:=(and_ok n (by omega) hp).2 h
 go_enter Tryz.func117,Tryz.ntmps117
 go_wp2
 all_goals (go_ret; exact ⟨by simp_all,rfl⟩)
theorem right_no (g:Int) (h:¬ ∃ n:Nat,g = n ∧ okN n) (w:World) :
  Calls Tryz.prog 117 #[.int .i64 g] w fun e w' => e = .returned (.bool false) ∧ w = w':=by
 by_cases h0:0 < g
 ·by_cases h1:g ≤ 64
  ·obtain ⟨n,rfl⟩:=Int.eq_ofNat_of_zero_le (show 0 ≤ g by omega)
   have hx:¬ bits .and .i64 (n:Int) ((n:Int) - 1) = 0:=fun e => h ⟨n,rfl,(and_ok n (by omega) (by omega)).1 e⟩
   have hb:(bits .and .i64 (n:Int) ((n:Int) - 1) == 0) = false:=by rw [beq_eq_false_iff_ne]; exact hx
   clear h hx
   go_enter Tryz.func117,Tryz.ntmps117
   go_wp2
   all_goals (go_ret; exact ⟨by simp_all,rfl⟩)
  ·clear h
   go_enter Tryz.func117,Tryz.ntmps117
   go_wp2
   all_goals (go_ret; exact ⟨by simp_all,rfl⟩)
 ·clear h
  go_enter Tryz.func117,Tryz.ntmps117
  go_wp2
  all_goals (go_ret; exact ⟨by simp_all,rfl⟩)
theorem wrapu_nat (x:Nat):IntKind.u64.wrap (x:Int) = ((x % 18446744073709551616:Nat):Int):=by
 simp [IntKind.wrap,IntKind.signed,IntKind.bits]
theorem i64_nat (n:Nat) (h:n < 9223372036854775808):wrap64 (n:Int) = (n:Int):=Go.IntWalk.wrap64_in _ (by omega)
theorem place_bits (h n i:Nat) (hok:okN n) (hi:i < n) :
  wrap64 ((IntKind.u64.wrap ((h:Int) + IntKind.u64.wrap (wrap64 ((wrap64 ((i:Int) * ((i:Int) + 1))).tdiv 2)))).tmod (n:Int)) = ((plc h n i:Nat):Int):=by
 have hp:=okN_pos hok
 have hl:=okN_le hok
 have hm:i * (i + 1) ≤ 63 * 64:=Nat.mul_le_mul (by omega) (by omega)
 have hlt:=plc_lt (h:=h) (i:=i) hp
 rw [show (i:Int) * ((i:Int) + 1) = ((i * (i + 1):Nat):Int) by simp,i64_nat _ (by omega),show (2:Int) = ((2:Nat):Int) from rfl,← Int.ofNat_tdiv,i64_nat _ (by omega),wrapu_nat,
  ← Int.natCast_add,wrapu_nat,← Int.ofNat_tmod,Nat.mod_eq_of_lt (show i * (i + 1) / 2 < 18446744073709551616 by omega),plc_wrap hok,i64_nat _ (by omega)]
theorem place_any (h n i:Nat) (hok:okN n) (hi:i < n) (w:World) :
  Calls Tryz.prog 129 #[.int .u64 h,.int .i64 n,.int .i64 i] w fun e w' => e = .returned (.int .i64 (plc h n i:Nat)) ∧ w = w':=by
 have hp:=okN_pos hok
 have hl:=okN_le hok
 have hB:=Lib.hid (place_bits h n i hok hi)
 go_enter Tryz.func129,Tryz.ntmps129
 go_wp2
 go_ret
 exact ⟨ret_int hB.out,rfl⟩

end Go.Proofs.YtdplhgpeggcmdaaGreatDoor.probe

/-! ### The iterator of package probe: 'Walk', for every loop body. -/
namespace Go.Proofs.YtdplhgpeggcmdaaGreatDoor.probe
open Go.ChangeShapes Go.WideShapes Go.ChangeAt Go.RowKit Go.Shelf
attribute [local go_sem] Oper.semAt_some

/-- Walk: both arguments are boxed; the function value captures the boxes -/
theorem walk_any (h:Nat) (g:Int) (w:World) :
  Calls Tryz.prog 94 #[.int .u64 h,.int .i64 g] w fun e w' => e = .returned (.func (.func 128) #[] #[.pointer (some ⟨w.heap.size + 1,0,none⟩),.pointer (some ⟨w.heap.size,0,none⟩)]) ∧ w' = (w.alloc (.cells #[.int .u64 h] 42)).alloc (.cells #[.int .i64 g] 3):=by
 go_enter Tryz.func94,Tryz.ntmps94
 go_wp2
 go_ret
 exact ⟨rfl,rfl⟩

/-- the places of a walk as far as place number j -/
def wlj (h n j:Nat):List Nat:=(List.range j).map (plc h n)
theorem wlj_prefix (h n j:Nat) (hj:j ≤ n):wlj h n j <+: wl h n:=by
 unfold wlj wl
 obtain ⟨d,rfl⟩:=Nat.exists_eq_add_of_le hj
 rw [List.range_add,List.map_append]
 exact ⟨_,rfl⟩

/-- the iterator's two boxes hold what they held -/
def KeepB (Bg Bh:Nat) (W W':World):Prop:=W'.cell? ⟨Bg,0,none⟩ = W.cell? ⟨Bg,0,none⟩ ∧ W'.cell? ⟨Bh,0,none⟩ = W.cell? ⟨Bh,0,none⟩
theorem keepB_t {Bg Bh:Nat} {A B C:World} (h:KeepB Bg Bh A B) (k:KeepB Bg Bh B C):KeepB Bg Bh A C:=⟨k.1.trans h.1,k.2.trans h.2⟩
theorem keepB_b {Bg Bh:Nat} {w:World} (hg:Bg < w.heap.size) (hh:Bh < w.heap.size) (W:World) (l:Nat) (o o':Obj) (hl:w.heap.size ≤ l) (_:W.heap[l]? = some o) (_:o.isCells = false) (_:o.isWalk = false):KeepB Bg Bh W (W.putObj l o'):=
 ⟨World.cell?_of_block (World.putObj_heap_other (by simp; omega)),World.cell?_of_block (World.putObj_heap_other (by simp; omega))⟩
end Go.Proofs.YtdplhgpeggcmdaaGreatDoor.probe

/-! ### The iterator of package probe, for every loop body that is told a place below the number of groups. -/
namespace Go.Proofs.YtdplhgpeggcmdaaGreatDoor.probe
open Go.ChangeShapes Go.WideShapes Go.ChangeAt Go.RowKit Go.Shelf
attribute [local go_sem] Oper.semAt_some

/-- the places of a walk as far as place number j, as numbers below n -/
def wljF (h n:Nat) (hn:0 < n) (j:Nat):List (Fin n):=(List.range j).map fun i => ⟨plc h n i,plc_lt hn⟩
theorem wljF_succ (h n:Nat) (hn:0 < n) (j:Nat):wljF h n hn (j + 1) = wljF h n hn j ++ [⟨plc h n j,plc_lt hn⟩]:=by simp [wljF,List.range_succ]
theorem wljF_length (h n:Nat) (hn:0 < n) (j:Nat):(wljF h n hn j).length = j:=by simp [wljF]
theorem wljF_val (h n:Nat) (hn:0 < n) (j:Nat):(wljF h n hn j).map Fin.val = wlj h n j:=by simp [wljF,wlj,Function.comp_def]
set_option maxRecDepth 100000 in
set_option maxHeartbeats 1000000 in
theorem walk1_inF (n:Nat) (hn:1 ≤ n) (l Bg Bh:Nat) (h k:Nat) (hok:okN k) (J Jx:List (Fin k) → World → Prop)
  (hY:∀ pre x W,J pre W → pre.length < k → YieldAt Fence.wide (n - 1) Tryz.prog l #[.int .i64 (x.val:Nat)] W fun e W' =>
   (e = .returned (.bool true) ∧ J (pre ++ [x]) W' ∧ KeepB Bg Bh W W') ∨ (e = .returned (.bool false) ∧ Jx (pre ++ [x]) W'))
  (W:World) (hBg:W.cell? ⟨Bg,0,none⟩ = some (.int .i64 (k:Nat))) (hBh:W.cell? ⟨Bh,0,none⟩ = some (.int .u64 h)) (h0:J [] W) :
  CallsIn Fence.wide n Tryz.prog 128 #[.func (.yield l) #[] #[],.pointer (some ⟨Bg,0,none⟩),.pointer (some ⟨Bh,0,none⟩)] W fun e W' => (∃ v,e = .returned v) ∧
   ((∃ ys:List (Fin k),ys.map Fin.val = wl h k ∧ J ys W') ∨ (∃ pre:List (Fin k),pre.map Fin.val <+: wl h k ∧ Jx pre W')):=by
 have hp:=okN_pos hok
 have hl:=okN_le hok
 refine callsIn_of_wp Tryz.func128 rfl trivial ?_ rfl
 simp only [Tryz.ntmps128,List.size_toArray,List.length_cons,List.length_nil,Nat.reduceAdd,Nat.reduceSub,Array.replicate_succ,Array.replicate_zero,List.push_toArray,List.append_toArray,List.nil_append,List.cons_append]
 gi_wp2_with (refine ⟨trivial, ?_⟩; gi_at_call 117; refine (callsIn_wide.2 (right_yes k hok _)).mono ?_; rintro e w' ⟨rfl,rfl⟩)
 gi_loopw [9] (fun v wr => ∃ j:Nat,j ≤ k ∧ v = .int .i64 j ∧ wr.cell? ⟨Bg,0,none⟩ = some (.int .i64 (k:Nat)) ∧ wr.cell? ⟨Bh,0,none⟩ = some (.int .u64 h) ∧ J (wljF h k hp j) wr)
  (fun v _ => k - (intOf v).toNat)
 case atStart => exact ⟨0,by omega,rfl,hBg,hBh,h0⟩
 case round =>
  obtain ⟨j,hj,rfl,cg,ch,hJs⟩:=hrel
  by_cases hlt:j < k
  ·gi_wp2_with (refine ⟨trivial, ?_⟩; gi_at_call 129; refine (callsIn_wide.2 (place_any h k j hok hlt _)).mono ?_; rintro e w' ⟨rfl,rfl⟩; obtain ⟨fn,tmps,assign,body,hy,hR⟩:=hY (wljF h k hp j) ⟨plc h k j,plc_lt hp⟩ wr hJs (by rw [wljF_length]; exact hlt))
   refine hR.mono ?_
   rintro e W3 (⟨rfl,hJ3,hk3⟩ | ⟨rfl,hJx3⟩)
   ·have cg3:=hk3.1.trans cg
    have ch3:=hk3.2.trans ch
    gi_wp2
    go_roundw
    case rel => exact ⟨j + 1,by omega,by go_num,cg3,ch3,by rw [wljF_succ]; exact hJ3⟩
    case measure => simp [intOf]; omega
   ·gi_wp2
    refine bodyPost_ret (results_none rfl _ _ _) rfl ?_
    exact ⟨⟨_,rfl⟩,.inr ⟨_,by rw [← wljF_succ,wljF_val]; exact wlj_prefix h k (j + 1) (by omega),hJx3⟩⟩
  ·obtain rfl:j = k:=by omega
   gi_wp2
   go_end0
   exact ⟨⟨_,rfl⟩,.inl ⟨_,by rw [wljF_val]; rfl,hJs⟩⟩
theorem walk_stopsF (n:Nat) (hn:1 ≤ n) (Bg Bh:Nat) (h k:Nat) (hok:okN k) (w:World) (hBg:Bg < w.heap.size) (hBh:Bh < w.heap.size)
  (cg:w.cell? ⟨Bg,0,none⟩ = some (.int .i64 (k:Nat))) (ch:w.cell? ⟨Bh,0,none⟩ = some (.int .u64 h)) :
  SeqStopsK Fence.wide n Tryz.prog 128 #[.pointer (some ⟨Bg,0,none⟩),.pointer (some ⟨Bh,0,none⟩)] (fun x:Fin k => #[Value.int .i64 (x.val:Nat)]) (KeepB Bg Bh) (fun ys => ys.map Fin.val = wl h k) (fun pre => pre.map Fin.val <+: wl h k) k w:=fun l J Jx W hW _ _ hY h0 =>
 walk1_inF n hn l Bg Bh h k hok J Jx hY W ((hW.cell (p:=⟨Bg,0,none⟩) hBg).trans cg) ((hW.cell (p:=⟨Bh,0,none⟩) hBh).trans ch) h0
end Go.Proofs.YtdplhgpeggcmdaaGreatDoor.probe
