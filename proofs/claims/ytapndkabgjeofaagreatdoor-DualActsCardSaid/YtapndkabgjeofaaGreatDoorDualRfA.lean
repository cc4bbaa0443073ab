/- DualRfA: several texts in one: plain facts and laws for the walks. No program is named. -/
import Derived.Test.YtapndkabgjeofaaGreatDoorEvacRf
import Derived.Test.YtapndkabgjeofaaGreatDoorDualIM
import Derived.LoopTactic
import Derived.Test.YtapndkabgjeofaaGreatDoorEvacNew
import Derived.Laws.OwnMore
import Derived.Deep.AppendLies
import Derived.Deep.CutRange
import Derived.Deep.CutBlock
import Derived.Deep.RegionHeld3

/-! ### dual: the document's dual: its tables, without the real ones; Left, rows, Find, looks, again. -/
namespace Go.Proofs.YtapndkabgjeofaaGreatDoor.dual
open Go.ChangeShapes Go.WideShapes Go.ChangeAt Go.RowKit Go.Shelf swar under trap meter group probe lens tail call table evac
attribute [local go_sem] Oper.semAt_some stage.pureUpon move.stepUpon
set_option linter.unusedSimpArgs false
set_option linter.unusedVariables false

/-- the document's tables alone: they hold u, and k groups of them were looked at -/
structure Wn (w0:World) (Z:Lay) (u:Nat → Tb) (k:Nat → Nat) (W:World):Prop where
 wa:∀ i,i < Z.N → WAt (Z.F i) (u i) (k i) W
 uok:∀ i,i < Z.N → (u i).Ok
 un:∀ i,i < Z.N → (u i).n = Z.n i
 sep:∀ i j,i < Z.N → j < Z.N → i ≠ j → ∀ b ∈ Z.rb i,b ∉ Z.rb j
 new:∀ i,i < Z.N → ∀ b ∈ Z.rb i,w0.heap.size ≤ b
 bel:Below w0.heap.size w0 W
section
variable {w0:World} {Z:Lay} {u:Nat → Tb} {k:Nat → Nat} {W W':World}
theorem Wn.lts (h:Wn w0 Z u k W) {b:Nat} (hb:b ∈ Z.rall):b < W.heap.size:=by
 obtain ⟨i,hi,hb⟩:=List.mem_flatMap.1 hb
 have hi:=List.mem_range.1 hi
 rcases List.mem_cons.1 hb with rfl | hb
 ·exact (h.wa i hi).lts (.inr rfl)
 ·exact (h.wa i hi).lts (.inl (by rw [h.un i hi]; exact hb))
theorem Wn.ge (h:Wn w0 Z u k W) {b:Nat} (hb:b ∈ Z.rall):w0.heap.size ≤ b:=by
 obtain ⟨i,hi,hb⟩:=List.mem_flatMap.1 hb
 exact h.new i (List.mem_range.1 hi) b hb
theorem Wn.read (h:Wn w0 Z u k W) (hb:Below W.heap.size W W'):Wn w0 Z u k W':=⟨fun i hi => (h.wa i hi).below hb,h.uok,h.un,h.sep,h.new,under.below_step h.bel hb⟩
theorem Wn.past {d:List Nat} (h:Wn w0 Z u k W) (hp:Past d W W') (hb:Below w0.heap.size w0 W') (ho:∀ b ∈ d,b ∉ Z.rall):Wn w0 Z u k W':=
 ⟨fun i hi => (h.wa i hi).past hp fun b hb' e => ho b e (Lay.rin hi (Lay.rmem (by rw [← h.un i hi]; exact hb'))),h.uok,h.un,h.sep,h.new,hb⟩
theorem Wn.ref {u':Tb} {k':Nat} (h:Wn w0 Z u k W) {i:Nat} (hi:i < Z.N) (hs:WStep (Z.F i) u' k' W W') (ok:u'.Ok) (hn:u'.n = Z.n i):Wn w0 Z (up u i u') (up k i k') W' ∧ Past Z.rall W W':=by
 have hp:=hs.past
 rw [hn] at hp
 have hr:∀ b ∈ (Z.F i).d (Z.n i),b ∈ Z.rb i:=fun b hb => Lay.rmem (.inl hb)
 refine ⟨⟨fun j hj => ?_,fun j hj => ?_,fun j hj => ?_,h.sep,h.new,h.bel.trans (hp.below h.bel.size fun b hb => h.new i hi b (hr b hb))⟩,hp.mono fun b hb => Lay.rin hi (hr b hb)⟩
 ·by_cases e:j = i
  ·subst e; rw [up_same,up_same]; exact hs.at'
  ·rw [up_ne _ _ e,up_ne _ _ e]
   exact (h.wa j hj).past hp fun b hb hb' => h.sep j i hj hi e b (Lay.rmem (by rw [← h.un j hj]; exact hb)) (hr b hb')
 ·by_cases e:j = i
  ·subst e; rw [up_same]; exact ok
  ·rw [up_ne _ _ e]; exact h.uok j hj
 ·by_cases e:j = i
  ·subst e; rw [up_same]; exact hn
  ·rw [up_ne _ _ e]; exact h.un j hj
theorem Wn.rput (h:Wn w0 Z u k W) {i:Nat} (hi:i < Z.N) (key hs v:Nat) (hk:key < 18446744073709551616) (hh:hs < 18446744073709551616) (hv:v < 18446744073709551616) (hK:k i + 64 < 9223372036854775807) :
  Calls Tryz.prog 47 #[.pointer (some ⟨(Z.F i).R,0,none⟩),group.entV key v hs] W fun e w' => e = .returned (.tuple #[.bool (putB' (u i) key hs),.int .i64 (putE' (u i) key hs:Nat)]) ∧ Wn w0 Z (up u i ((u i).puts key hs v)) (up k i (k i + looks (u i) key hs)) w' ∧ Past Z.rall W w':=
 (rtput_any (Z.F i) (u i) (h.uok i hi) (k i) key v hs hK hh W (h.wa i hi)).mono fun e w' ⟨he,hs'⟩ => ⟨he,h.ref hi hs' ((h.uok i hi).puts hk hh hv) ((puts_n ..).trans (h.un i hi))⟩
theorem Wn.rfind (h:Wn w0 Z u k W) {i:Nat} (hi:i < Z.N) (key hs:Nat) (hh:hs < 18446744073709551616) (hK:k i + 64 < 9223372036854775807) :
  Calls Tryz.prog 61 #[.pointer (some ⟨(Z.F i).R,0,none⟩),.int .u64 key,.int .u64 hs] W fun e w' => e = .returned (.tuple #[group.entV (entOf (u i) key hs).key (entOf (u i) key hs).val (entOf (u i) key hs).hash,.bool (isThere (u i) key hs)]) ∧ Wn w0 Z u (up k i (k i + looks (u i) key hs)) w' ∧ Past Z.rall W w':=
 (rtfind_any (Z.F i) (u i) (h.uok i hi).n (k i) key hs hK hh W (h.wa i hi)).mono fun e w' ⟨he,hs'⟩ => by
  obtain ⟨h1,h2⟩:=h.ref hi hs' (h.uok i hi) (h.un i hi)
  rw [up_self] at h1
  exact ⟨he,h1,h2⟩
theorem Wn.rdelete (h:Wn w0 Z u k W) {i:Nat} (hi:i < Z.N) (key hs:Nat) (hk:key < 18446744073709551616) (hh:hs < 18446744073709551616) (hK:k i + 64 < 9223372036854775807) :
  Calls Tryz.prog 59 #[.pointer (some ⟨(Z.F i).R,0,none⟩),.int .u64 key,.int .u64 hs] W fun e w' => e = .returned (.tuple #[group.entV (entOf (u i) key hs).key (entOf (u i) key hs).val (entOf (u i) key hs).hash,.bool (isThere (u i) key hs)]) ∧ Wn w0 Z (up u i ((u i).remove key hs)) (up k i (k i + looks (u i) key hs)) w' ∧ Past Z.rall W w':=
 (rtdelete_any (Z.F i) (u i) (h.uok i hi) (k i) key hs hK hh W (h.wa i hi)).mono fun e w' ⟨he,hs'⟩ => ⟨he,h.ref hi hs' ((h.uok i hi).remove ..) ((remove_n ..).trans (h.un i hi))⟩
theorem Wn.setK (h:Wn w0 Z u k W) {i:Nat} (hi:i < Z.N) (c:Nat):Wn w0 Z u (up k i c) (W.setCell ⟨(Z.F i).R,1,none⟩ (.int .i64 (c:Nat))) ∧ Past Z.rall W (W.setCell ⟨(Z.F i).R,1,none⟩ (.int .i64 (c:Nat))):=by
 obtain ⟨h1,h2⟩:=h.ref hi ((h.wa i hi).setK c) (h.uok i hi) (h.un i hi)
 rw [up_self] at h1
 exact ⟨h1,h2⟩
end
/-- the document's dual: bare groups are still to be prepared -/
structure Dd (R E bare:Nat) (tk:Bool) (W:World):Prop where
 row:W.heap[R]? = some (.cells #[.pointer (some ⟨E,0,none⟩),.int .i64 (bare:Nat),.bool tk] 47 (0,0))
section
variable {R E bare:Nat} {tk:Bool} {W W':World}
theorem Dd.lt (h:Dd R E bare tk W):R < W.heap.size:=(Array.getElem?_eq_some_iff.1 h.row).1
theorem Dd.keep (h:Dd R E bare tk W) (hb:Below W.heap.size W W'):Dd R E bare tk W':=⟨(hb.block R h.lt).trans h.row⟩
theorem Dd.past {l:List Nat} (h:Dd R E bare tk W) (hp:Past l W W') (hR:R ∉ l):Dd R E bare tk W':=⟨(hp.block R h.lt hR).trans h.row⟩
theorem Dd.c0 (h:Dd R E bare tk W):W.cell? ⟨R,0,none⟩ = some (.pointer (some ⟨E,0,none⟩)):=by rw [cell_of_row _ _ _ _ _ _ h.row]; rfl
theorem Dd.c1 (h:Dd R E bare tk W):W.cell? ⟨R,1,none⟩ = some (.int .i64 (bare:Nat)):=by rw [cell_of_row _ _ _ _ _ _ h.row]; rfl
theorem Dd.c2 (h:Dd R E bare tk W):W.cell? ⟨R,2,none⟩ = some (.bool tk):=by rw [cell_of_row _ _ _ _ _ _ h.row]; rfl
theorem Dd.fz (h:Dd R E bare tk W) (i:Nat):W.frozen? ⟨R,i,none⟩ = false:=frozen_of_row _ _ i _ _ h.row
theorem Dd.set1 (h:Dd R E bare tk W) (x:Nat):Dd R E x tk (W.setCell ⟨R,1,none⟩ (.int .i64 (x:Nat))):=⟨heap_setCell_same W R 1 _ _ _ h.row⟩
end
set_option maxRecDepth 20000 in
/-- how many steps are left of the document's dual -/
theorem rdleft_any {R E bare G c d next:Nat} {tk:Bool} {Z:Lay} {w0 w:World} {u:Nat → Tb} {k:Nat → Nat} (h:Dd R E bare tk w) (hE:EmAt E G c Z d next w) (hW:Wn w0 Z u k w) (h0:0 < Z.N) (hn:next ≤ Z.n 0) (hb:bare ≤ 1000) :
  Calls Tryz.prog 25 #[.pointer (some ⟨R,0,none⟩)] w fun e w' => e = .returned (.int .i64 ((bare + Z.n 0 - next:Nat):Int)) ∧ Below w.heap.size w w':=by
 have c0:=h.c0
 have c1:=h.c1
 have e0:=hE.c0
 have e3:=hE.c3
 have f0:=(hW.wa 0 h0).cell0
 have hun:=hW.un 0 h0
 have hle:=okN_le (hW.uok 0 h0).n
 rw [hun] at f0 hle
 have x1:IntKind.i64.wrap ((bare:Int) + (Z.n 0:Nat)) = (bare:Int) + (Z.n 0:Nat):=IntWalk.i64_in _ (by omega)
 have x2:IntKind.i64.wrap ((bare:Int) + (Z.n 0:Nat) - (next:Nat)) = (bare:Int) + (Z.n 0:Nat) - (next:Nat):=IntWalk.i64_in _ (by omega)
 have x3:((bare + Z.n 0 - next:Nat):Int) = (bare:Int) + (Z.n 0:Nat) - (next:Nat):=by omega
 rw [x3]
 generalize Z.n 0 = n0 at *
 clear h hE hW x3 hun hle
 have y0:=Under.cell c0
 have y1:=Under.cell c1
 have y2:=Under.cell e0
 have y3:=Under.cell e3
 have y4:=Under.cell f0
 go_enter Tryz.func25,Tryz.ntmps25
 go_wp2
 go_quiet (fail)
 go_wp2
 go_ret
 exact ⟨rfl,below_drewN' _ _⟩
/-- pointers to the document's tables -/
def rptrs (Z:Lay) (J:List Nat):List Value:=J.map fun i => .pointer (some ⟨(Z.F i).R,0,none⟩)
set_option maxRecDepth 20000 in
theorem rrows_no {R E bare G c d next:Nat} {tk:Bool} {Z:Lay} {w:World} (h:Dd R E bare tk w) (hE:EmAt E G c Z d next w) (hb:0 < bare) (hs:Nat) :
  Calls Tryz.prog 54 #[.pointer (some ⟨R,0,none⟩),.int .u64 (hs:Nat)] w fun e w' => ∃ B,e = .returned (.slice (some ⟨B,0,none⟩) 1 1) ∧ w'.cell? ⟨B,0,none⟩ = some (.pointer (some ⟨(Z.F 0).R,0,none⟩)) ∧ w.heap.size ≤ B ∧ Below w.heap.size w w':=by
 have c0:=h.c0
 have c1:=h.c1
 have e0:=hE.c0
 have d1:decide ((0:Int) < (bare:Int)) = true:=decide_eq_true (by omega)
 have d2:decide (0 < bare) = true:=decide_eq_true hb
 clear h hE hb
 go_enter Tryz.func54,Tryz.ntmps54
 go_wp2
 go_ret
 have hr:=World.alloc_heap_new w (.cells #[.pointer (some ⟨(Z.F 0).R,0,none⟩)] 73)
 exact ⟨w.heap.size,rfl,by rw [cell_of_row _ _ _ _ _ _ hr]; rfl,Nat.le_refl _,new_block _ _⟩
set_option maxRecDepth 20000 in
theorem rrows_yes {R E G c d next:Nat} {tk:Bool} {Z:Lay} {w:World} (hN:Z.N = 2 ∨ Z.N = 3) (hd:d ≤ 15) (h:Dd R E 0 tk w) (hE:EmAt E G c Z d next w) (hs:Nat) (hh:hs < 18446744073709551616) :
  Calls Tryz.prog 54 #[.pointer (some ⟨R,0,none⟩),.int .u64 (hs:Nat)] w fun e w' => ∃ B,e = .returned (.slice (some ⟨B,0,none⟩) 2 2) ∧ w'.cell? ⟨B,0,none⟩ = some (.pointer (some ⟨(Z.F (tgt Z.N d hs)).R,0,none⟩)) ∧ w'.cell? ⟨B,1,none⟩ = some (.pointer (some ⟨(Z.F 0).R,0,none⟩)) ∧ w.heap.size ≤ B ∧ Below w.heap.size w w':=by
 have c1:=h.c1
 have y0:=Under.cell h.c0
 have y1:=Under.cell hE.c0
 have cT:=fun (q:Under w) => rtarget_any E G c Z hN d next hs hd hh q.W (hE.keep q.below)
 clear h hE
 generalize (Z.F (tgt Z.N d hs)).R = Rt at *
 generalize (Z.F 0).R = R0 at *
 go_enter Tryz.func54,Tryz.ntmps54
 go_wp2
 refine tail.wp_region_tail_under 13 (by kernel_rfl) (by kernel_rfl) ?_
 simp only [List.take_succ_cons,List.take_zero,List.drop_succ_cons,List.drop_zero]
 repeat (quiet_step ((go_at_call 99; (with_reducible refine under_call (cT _)))))
 refine wpQuiet_nil ?_
 intro wz hwz
 obtain ⟨z,rfl⟩:=hwz
 have hb:=z.below
 clear y0 y1 cT
 generalize z.W = w4 at *
 clear z
 go_wp2
 go_ret
 have hr:=World.alloc_heap_new w4 (.cells #[.pointer (some ⟨Rt,0,none⟩),.pointer (some ⟨R0,0,none⟩)] 73)
 refine ⟨w4.heap.size,rfl, ?_, ?_,hb.size,under.below_step hb (new_block _ _)⟩
 ·rw [cell_of_row _ _ _ _ _ _ hr]; rfl
 ·rw [cell_of_row _ _ _ _ _ _ hr]; rfl
end Go.Proofs.YtapndkabgjeofaaGreatDoor.dual

/-! ### dual: the document's dual: Find; how often its tables were looked at. -/
namespace Go.Proofs.YtapndkabgjeofaaGreatDoor.dual
open Go.ChangeShapes Go.WideShapes Go.ChangeAt Go.RowKit Go.Shelf swar under trap meter group probe lens tail call table evac
attribute [local go_sem] Oper.semAt_some stage.pureUpon move.stepUpon
set_option linter.unusedSimpArgs false
set_option linter.unusedVariables false

/-- how often each table was looked at, behind a look at each of a list -/
def kst (u:Nat → Tb) (key h:Nat):List Nat → (Nat → Nat) → (Nat → Nat)
 | [],k => k
 | i :: l,k => kst u key h l (up k i (k i + looks (u i) key h))
def lsum (u:Nat → Tb) (key h:Nat):List Nat → Nat
 | [] => 0
 | i :: l => looks (u i) key h + lsum u key h l
theorem kst_snoc (u:Nat → Tb) (key h i:Nat):∀ (l:List Nat) (k:Nat → Nat),kst u key h (l ++ [i]) k = up (kst u key h l k) i (kst u key h l k i + looks (u i) key h)
 | [],_ => rfl
 | j :: l,k => kst_snoc u key h i l (up k j (k j + looks (u j) key h))
theorem sumK_up {N:Nat} (hN:N = 2 ∨ N = 3) (k:Nat → Nat) {i c:Nat} (hi:i < N):sumK N (up k i (k i + c)) = sumK N k + c:=by
 unfold sumK
 rcases hN with rfl | rfl
 ·rw [if_neg (by decide),if_neg (by decide)]
  obtain rfl | rfl:i = 0 ∨ i = 1:=by omega
  ·rw [up_same,up_ne (h:=by decide)]; omega
  ·rw [up_same,up_ne (h:=by decide)]; omega
 ·rw [if_pos rfl,if_pos rfl]
  obtain rfl | rfl | rfl:i = 0 ∨ i = 1 ∨ i = 2:=by omega
  ·rw [up_same,up_ne (h:=by decide),up_ne (h:=by decide)]; omega
  ·rw [up_same,up_ne (h:=by decide),up_ne (h:=by decide)]; omega
  ·rw [up_same,up_ne (h:=by decide),up_ne (h:=by decide)]; omega
theorem kst_sum {u:Nat → Tb} {key h N:Nat} (hN:N = 2 ∨ N = 3):∀ (l:List Nat) (k:Nat → Nat),(∀ i ∈ l,i < N) → sumK N (kst u key h l k) = sumK N k + lsum u key h l
 | [],_,_ => rfl
 | i :: l,k,hl => by
  have ih:=kst_sum (u:=u) (key:=key) (h:=h) hN l (up k i (k i + looks (u i) key h)) fun j hj => hl j (List.mem_cons_of_mem _ hj)
  rw [sumK_up hN k (hl i List.mem_cons_self)] at ih
  show sumK N (kst u key h l _) = _
  rw [ih]
  show _ = sumK N k + (looks (u i) key h + lsum u key h l)
  omega
theorem sumK_ge {N:Nat} (hN:N = 2 ∨ N = 3) (k:Nat → Nat) {i:Nat} (hi:i < N):k i ≤ sumK N k:=by
 unfold sumK
 rcases hN with rfl | rfl
 ·rw [if_neg (by decide)]
  obtain rfl | rfl:i = 0 ∨ i = 1:=by omega
  ·omega
  ·omega
 ·rw [if_pos rfl]
  obtain rfl | rfl | rfl:i = 0 ∨ i = 1 ∨ i = 2:=by omega
  ·omega
  ·omega
  ·omega
/-- at which place of a list a key is found; behind it: none -/
def fpos (u:Nat → Tb) (key h:Nat):List Nat → Nat
 | [] => 0
 | i :: l => if isThere (u i) key h = true then 0 else fpos u key h l + 1
theorem fnd_fpos (u:Nat → Tb) (key h:Nat):∀ l,fnd u key h l = l[fpos u key h l]?
 | [] => rfl
 | i :: l => by
  have ih:=fnd_fpos u key h l
  unfold fnd fpos
  split
  ·rfl
  ·rw [ih]; rfl
theorem fndK_fpos (u:Nat → Tb) (key h:Nat):∀ l,fndK u key h l = lsum u key h (l.take (fpos u key h l + 1))
 | [] => rfl
 | i :: l => by
  have ih:=fndK_fpos u key h l
  unfold fndK fpos
  split
  ·rfl
  ·rw [ih]; rfl
/-- while rows are gone through -/
structure RfI (w0:World) (Z:Lay) (u:Nat → Tb) (k:Nat → Nat) (key h:Nat) (J:List Nat) (B j:Nat) (W:World):Prop where
 w:Wn w0 Z u (kst u key h (J.take j) k) W
 off:∀ i ∈ J.take j,isThere (u i) key h = false
 ps:∀ i (hi:i < J.length),W.cell? ⟨B,i,none⟩ = some (.pointer (some ⟨(Z.F J[i]).R,0,none⟩))
 nB:B ∉ Z.rall
section
variable {w0:World} {Z:Lay} {u:Nat → Tb} {k:Nat → Nat} {key h:Nat} {J:List Nat} {B j:Nat} {W W':World}
theorem RfI.read (hI:RfI w0 Z u k key h J B j W) (hb:Below W.heap.size W W'):RfI w0 Z u k key h J B j W':=⟨hI.w.read hb,hI.off,fun i hi => keepc hb (hI.ps i hi),hI.nB⟩
theorem RfI.next (hI:RfI w0 Z u k key h J B j W) (hj:j < J.length) (ht:isThere (u J[j]) key h = false) (hW:Wn w0 Z u (up (kst u key h (J.take j) k) J[j] (kst u key h (J.take j) k J[j] + looks (u J[j]) key h)) W') (hp:Past Z.rall W W'):RfI w0 Z u k key h J B (j + 1) W':=by
 have e:J.take (j + 1) = J.take j ++ [J[j]]:=by rw [List.take_add_one,List.getElem?_eq_getElem hj]; rfl
 refine ⟨?_,fun i hi => ?_,fun i hi => hp.cell (hI.ps i hi) hI.nB,hI.nB⟩
 ·rw [e,kst_snoc]; exact hW
 ·rw [e] at hi
  rcases List.mem_append.1 hi with hi | hi
  ·exact hI.off i hi
  ·obtain rfl:i = J[j]:=by simpa using hi
   exact ht
end
theorem fpos_at {u:Nat → Tb} {key h:Nat}:∀ {J:List Nat} {j:Nat} (hj:j < J.length),(∀ i ∈ J.take j,isThere (u i) key h = false) → isThere (u J[j]) key h = true → fpos u key h J = j
 | i :: l,0,_,_,ht => by
  unfold fpos; exact if_pos ht
 | i :: l,j + 1,hj,ho,ht => by
  have h0:=ho i (by simp)
  have ih:=fpos_at (J:=l) (j:=j) (by simpa using hj) (fun x hx => ho x (by simp; exact .inr hx)) ht
  unfold fpos
  rw [if_neg (by rw [h0]; decide),ih]
theorem fpos_off {u:Nat → Tb} {key h:Nat}:∀ {J:List Nat},(∀ i ∈ J,isThere (u i) key h = false) → fpos u key h J = J.length
 | [],_ => rfl
 | i :: l,ho => by
  have h0:=ho i (by simp)
  have ih:=fpos_off (J:=l) (fun x hx => ho x (by simp [hx]))
  unfold fpos
  rw [if_neg (by rw [h0]; decide),ih]; rfl
theorem kst_le {u:Nat → Tb} {key h:Nat}:∀ (l:List Nat) (k:Nat → Nat) (i:Nat),kst u key h l k i ≤ k i + lsum u key h l
 | [],k,i => Nat.le_add_right _ _
 | j :: l,k,i => by
  have ih:=kst_le (u:=u) (key:=key) (h:=h) l (up k j (k j + looks (u j) key h)) i
  show kst u key h l _ i ≤ k i + (looks (u j) key h + lsum u key h l)
  by_cases e:i = j
  ·subst e; rw [up_same] at ih; omega
  ·rw [up_ne _ _ e] at ih; omega
theorem lsum_le {u:Nat → Tb} {key h:Nat}:∀ (l:List Nat),(∀ i ∈ l,looks (u i) key h ≤ 64) → lsum u key h l ≤ 64 * l.length
 | [],_ => Nat.le_refl _
 | j :: l,hl => by
  have ih:=lsum_le (u:=u) (key:=key) (h:=h) l fun i hi => hl i (List.mem_cons_of_mem _ hi)
  have h1:=hl j List.mem_cons_self
  rw [List.length_cons]
  show looks (u j) key h + lsum u key h l ≤ _
  omega
theorem fndE_pos {u:Nat → Tb} {key h:Nat} {J:List Nat} {j:Nat} (hj:j < J.length) (ho:∀ i ∈ J.take j,isThere (u i) key h = false) (ht:isThere (u J[j]) key h = true):fndE u key h J = entOf (u J[j]) key h ∧ fnd u key h J = some J[j]:=by
 have e:=fpos_at hj ho ht
 have e2:fnd u key h J = some J[j]:=by rw [fnd_fpos,e,List.getElem?_eq_getElem hj]
 exact ⟨by unfold fndE; rw [e2],e2⟩
theorem fndE_off {u:Nat → Tb} {key h:Nat} {J:List Nat} (ho:∀ i ∈ J,isThere (u i) key h = false):fndE u key h J = ⟨1,0,0,0⟩ ∧ fnd u key h J = none:=by
 have e:=fpos_off ho
 have e2:fnd u key h J = none:=by rw [fnd_fpos,e]; exact List.getElem?_eq_none (Nat.le_refl _)
 exact ⟨by unfold fndE; rw [e2],e2⟩
theorem Wn.newset {w0:World} {Z:Lay} {u:Nat → Tb} {k:Nat → Nat} {W:World} (h:Wn w0 Z u k W) {X:Nat} (hX:X ∉ Z.rall) (h0:w0.heap.size ≤ X) (i:Nat) (v:Value):Wn w0 Z u k (W.setCell ⟨X,i,none⟩ v):=by
 have hp:Past [X] W (W.setCell ⟨X,i,none⟩ v):=(Past.refl [X] W).store (p:=⟨X,i,none⟩) (.inl (by simp)) v
 refine h.past hp (h.bel.trans (hp.below h.bel.size fun b hb => ?_)) fun b hb => ?_
 ·obtain rfl:b = X:=by simpa using hb
  exact h0
 ·obtain rfl:b = X:=by simpa using hb
  exact hX
theorem past_newset {d:List Nat} {w W:World} (hp:Past d w W) {X:Nat} (hX:w.heap.size ≤ X) (i:Nat) (v:Value):Past d w (W.setCell ⟨X,i,none⟩ v):=
 ⟨hp.os,hp.tape,hp.output,by simpa [World.setCell] using hp.size,fun k hk hn => (Below.heap_setCell _ _ _ _ (by show k ≠ X; omega)).trans (hp.block k hk hn)⟩
/-- what Find says of the place -/
def pI (u:Nat → Tb) (key h:Nat) (J:List Nat):Int:=if (fnd u key h J).isSome = true then (fpos u key h J:Int) else -1
set_option maxRecDepth 20000 in
theorem rdfind_any (w0:World) (Z:Lay) (u:Nat → Tb) (k:Nat → Nat) (key h:Nat) (hh:h < 18446744073709551616) (J:List Nat) (hJ:J.length ≤ 2) (hJN:∀ i ∈ J,i < Z.N) (R:Nat) (w:World) (hW:Wn w0 Z u k w) (hk:∀ i,i < Z.N → k i ≤ 1000000)
  (cR:∀ W,Below w.heap.size w W → Calls Tryz.prog 54 #[.pointer (some ⟨R,0,none⟩),.int .u64 (h:Nat)] W fun e w' => ∃ B c,e = .returned (.slice (some ⟨B,0,none⟩) J.length c) ∧ (∀ i (hi:i < J.length),w'.cell? ⟨B,i,none⟩ = some (.pointer (some ⟨(Z.F J[i]).R,0,none⟩))) ∧ W.heap.size ≤ B ∧ Below W.heap.size W w') :
  Calls Tryz.prog 19 #[.pointer (some ⟨R,0,none⟩),.int .u64 (key:Nat),.int .u64 (h:Nat)] w fun e w' => e = .returned (.tuple #[group.entV (fndE u key h J).key (fndE u key h J).val (fndE u key h J).hash,.int .i64 (pI u key h J)]) ∧ Wn w0 Z u (kst u key h (J.take (fpos u key h J + 1)) k) w' ∧ Past Z.rall w w':=by
 have hb0:=new_block w (.cells #[.int .u64 0,.int .u64 0,.int .u64 0] 43)
 have hX:=EBox.new 0 0 0 w
 have lks:∀ i ∈ J,looks (u i) key h ≤ 64:=fun i hi => by
  have:=looks_le (u i) key h
  have:=okN_le (hW.uok i (hJN i hi)).n
  omega
 have lsm:∀ j,lsum u key h (J.take j) ≤ 128:=fun j => by
  have h1:=lsum_le (u:=u) (key:=key) (h:=h) (J.take j) fun i hi => lks i (List.mem_of_mem_take hi)
  have h2:(J.take j).length ≤ 2:=by rw [List.length_take]; omega
  omega
 have HLS:=Lib.hid lsm
 have HW:=Lib.hid hW
 have HK:=Lib.hid hk
 have hlt:∀ b ∈ Z.rall,b < w.heap.size:=fun b hb => hW.lts hb
 have HLT:=Lib.hid hlt
 clear lks lsm hW hk hlt
 go_enter Tryz.func19,Tryz.ntmps19
 go_wp2_with (fail)
 refine (cR _ hb0).mono ?_
 rintro e w1 ⟨B,c,rfl,hP,hB,hb1⟩
 have hb01:=under.below_step hb0 hb1
 have hz0:=World.size_alloc w (.cells #[.int .u64 0,.int .u64 0,.int .u64 0] 43)
 have HI:=Lib.hid (show RfI w0 Z u k key h J B 0 w1 ∧ EBox w.heap.size 0 0 0 w1 ∧ Past Z.rall w w1 from ⟨⟨by simpa [kst] using HW.out.read hb01,fun i hi => by simp at hi,hP,fun e => by have:=HLT.out _ e; omega⟩,hX.keep hb1,Past.of hb01⟩)
 clear hX hP hB cR hb0 hb1 hb01
 go_wp2_with (fail)
 go_loopw [16] (fun i wr => ∃ j:Nat,j ≤ J.length ∧ i = .int .i64 j ∧ Hid (RfI w0 Z u k key h J B j wr ∧ EBox w.heap.size 0 0 0 wr ∧ Past Z.rall w wr)) (fun i _ => J.length - (intOf i).toNat)
 case atStart => exact ⟨0,by omega,rfl,HI⟩
 case round =>
  obtain ⟨j,hj,rfl,HF⟩:=hrel
  clear HI
  rcases Nat.lt_or_ge j J.length with hjl | hjl
  ·have hji:(j:Int) < (J.length:Int):=by omega
   have hc:=HF.out.1.ps j hjl
   have hadd:(⟨B,0,none⟩:Addr).add j = ⟨B,j,none⟩:=by rw [add_at,Nat.zero_add]
   have hi:=hJN _ (List.getElem_mem hjl)
   have cF:=HF.out.1.w.rfind hi key h hh (by
    have h1:=kst_le (u:=u) (key:=key) (h:=h) (J.take j) k J[j]
    have h2:=HLS.out j
    have h3:=HK.out _ hi
    omega)
   have HN:=Lib.hid (fun (W':World) ht hw hp => HF.out.1.next (W':=W') hjl ht hw hp)
   have HE:=Lib.hid (fun ht => fndE_pos hjl HF.out.1.off ht)
   have HP:=Lib.hid (fun ht => fpos_at hjl HF.out.1.off ht)
   have eT:J.take (j + 1) = J.take j ++ [J[j]]:=by rw [List.take_add_one,List.getElem?_eq_getElem hjl]; rfl
   have HT:=Lib.hid eT
   have HX:=Lib.hid HF.out.2
   have hzl:w.heap.size < wr.heap.size:=HF.out.2.1.lt
   clear eT
   generalize hJj:J[j] = i at *
   generalize hen:entOf (u i) key h = en at *
   generalize hit:isThere (u i) key h = it at *
   cases it with
   | false =>
    clear HE HP HT
    go_wp2_with (go_at_call 61; refine cF.mono ?_; clear cF; rintro e w2 ⟨rfl,hw2,hp2⟩)
    have hb3:=new_block w2 (.cells #[.int .u64 (en.key:Nat),.int .u64 (en.val:Nat),.int .u64 (en.hash:Nat)] 43)
    have HN2:=Lib.hid ((HN.out _ (by simp) hw2 hp2).read hb3)
    have HX2:=Lib.hid (And.intro ((HX.out.1.past hp2 (fun e => by have:=HLT.out _ e; omega)).keep hb3) ((HX.out.2.trans hp2).trans (Past.of hb3)))
    clear hw2 hp2 hb3 HN
    go_roundw
    case rel => exact ⟨j + 1,by omega,by simp,Lib.hid ⟨HN2.out,HX2.out⟩⟩
    case measure => simp [intOf]; omega
   | true =>
    obtain ⟨e1,e2⟩:=HE.out rfl
    have e3:=HP.out rfl
    clear HN HE HP
    go_wp2_with (go_at_call 61; refine cF.mono ?_; clear cF; rintro e w2 ⟨rfl,hw2,hp2⟩; have hr2:=(HX.out.1.past hp2 (fun e => by have:=HLT.out _ e; omega)).keep (new_block w2 (.cells #[.int .u64 (en.key:Nat),.int .u64 (en.val:Nat),.int .u64 (en.hash:Nat)] 43)); have hE2:=EBox.new en.key en.val en.hash w2; have y0:=hE2.c0; have y1:=hE2.c1; have y2:=hE2.c2; have x0:=hr2.c0; have x1:=hr2.c1; have x2:=hr2.c2; have x3:=hr2.fz; have hz:=hp2.size; have hnx:w2.heap.size ≠ w.heap.size:=(by omega))
    refine bodyPost_ret (v:=.tuple #[group.entV en.key en.val en.hash,.int .i64 j]) (by simp [results,Tryz.results19,go_sem,x0,x1,x2]) rfl ⟨?_, ?_, ?_⟩
    ·rw [e1]
     unfold pI
     rw [e2,e3]; rfl
    ·have hw3:=hw2.read (new_block w2 (.cells #[.int .u64 (en.key:Nat),.int .u64 (en.val:Nat),.int .u64 (en.hash:Nat)] 43))
     rw [e3,HT.out,kst_snoc]
     have nX:w.heap.size ∉ Z.rall:=fun e => by have:=HLT.out _ e; omega
     have gX:=HW.out.bel.size
     exact ((hw3.newset nX gX 0 _).newset nX gX 1 _).newset nX gX 2 _
    ·exact past_newset (past_newset (past_newset ((HX.out.2.trans hp2).trans (Past.of (new_block w2 (.cells #[.int .u64 (en.key:Nat),.int .u64 (en.val:Nat),.int .u64 (en.hash:Nat)] 43)))) (Nat.le_refl _) 0 _) (Nat.le_refl _) 1 _) (Nat.le_refl _) 2 _
  ·obtain rfl:j = J.length:=by omega
   have hI:=HF.out.1
   have ho:=hI.off
   have hw:=hI.w
   rw [List.take_length] at ho hw
   obtain ⟨e1,e2⟩:=fndE_off ho
   have e3:=fpos_off ho
   have x0:=HF.out.2.1.c0
   have x1:=HF.out.2.1.c1
   have x2:=HF.out.2.1.c2
   have x3:=HF.out.2.1.fz
   have HWJ:=Lib.hid hw
   clear hI ho hw
   go_wp2
   refine bodyPost_ret (v:=.tuple #[group.entV 0 0 0,.int .i64 (-1)]) (by simp [results,Tryz.results19,go_sem,x0,x1,x2]) rfl ⟨?_, ?_, ?_⟩
   ·rw [e1]
    unfold pI
    rw [e2]; rfl
   ·rw [e3,List.take_of_length_le (by omega)]
    have nX:w.heap.size ∉ Z.rall:=fun e => by have:=HLT.out _ e; omega
    have gX:=HW.out.bel.size
    exact ((HWJ.out.newset nX gX 0 _).newset nX gX 1 _).newset nX gX 2 _
   ·exact past_newset (past_newset (past_newset HF.out.2.2 (Nat.le_refl _) 0 _) (Nat.le_refl _) 1 _) (Nat.le_refl _) 2 _
end Go.Proofs.YtapndkabgjeofaaGreatDoor.dual

/-! ### dual: the document's dual: how often its tables were looked at, taken and put back. -/
namespace Go.Proofs.YtapndkabgjeofaaGreatDoor.dual
open Go.ChangeShapes Go.WideShapes Go.ChangeAt Go.RowKit Go.Shelf swar under trap meter group probe lens tail call table evac
attribute [local go_sem] Oper.semAt_some stage.pureUpon move.stepUpon
set_option linter.unusedSimpArgs false
set_option linter.unusedVariables false

def kvs (k:Nat → Nat) (n:Nat):List Value:=(List.range n).map fun i => .int .i64 (k i:Nat)
theorem kvs_snoc (k:Nat → Nat) (n:Nat):kvs k (n + 1) = kvs k n ++ [.int .i64 (k n:Nat)]:=by unfold kvs; rw [List.range_succ,List.map_append]; rfl
theorem kvs_at (k:Nat → Nat) (n i:Nat) (h:i < n):(kvs k n)[i]? = some (.int .i64 (k i:Nat)):=by unfold kvs; simp [h]
theorem infoI:(Tryz.prog.info? 3).map (fun i => (i.zero,i.size,i.bytes)) = some (some (.int .i64 0),1,8):=by kernel_rfl
set_option maxRecDepth 20000 in
theorem rdlooks_any {R E bare G c d next:Nat} {tk:Bool} {Z:Lay} {w0 w:World} {u:Nat → Tb} {k:Nat → Nat} (hN:Z.N = 2 ∨ Z.N = 3) (h:Dd R E bare tk w) (hE:EmAt E G c Z d next w) (hW:Wn w0 Z u k w) :
  Calls Tryz.prog 53 #[.pointer (some ⟨R,0,none⟩)] w fun e w' => ∃ B c,e = .returned (.slice (some ⟨B,0,none⟩) Z.N c) ∧ (∀ i,i < Z.N → w'.cell? ⟨B,i,none⟩ = some (.int .i64 (k i:Nat))) ∧ w.heap.size ≤ B ∧ Below w.heap.size w w':=by
 obtain ⟨i0,hi0,hq0,hq1,hq2⟩:=info_parts infoI
 have c0:=h.c0
 have e0:=hE.c0
 have e1:=hE.c1
 have f1:=(hW.wa 0 (by omega)).cell1
 have b0:=new_block w (.cells #[.int .i64 (k 0:Nat)] 3)
 have hr0:(w.alloc (.cells #[.int .i64 (k 0:Nat)] 3)).ownsRow w.heap.size 3 1 (.slice (some ⟨w.heap.size,0,none⟩) 1 1) 1 (kvs k 1):=World.ownsRow_lit w #[.int .i64 (k 0:Nat)] 1 (Nat.le_refl _) (by decide) rfl
 have y0:=keepc b0 c0
 have y1:=keepc b0 e1
 have HI:=Lib.hid (And.intro hr0 b0)
 have HH:=Lib.hid (fun W (hb:Below w.heap.size w W) => And.intro (hE.keep hb) (hW.read hb))
 obtain ⟨nb,hnb⟩:∃ nb,Z.N - 1 = nb:=⟨_,rfl⟩
 rw [hnb] at e1 y1
 have HNB:=Lib.hid (show Z.N = nb + 1 by omega)
 have hnb2:nb ≤ 2:=by omega
 clear h hE hW hr0 b0 hnb
 go_enter Tryz.func53,Tryz.ntmps53
 go_wp2
 go_loopw [25,3] (fun i v wr => ∃ m:Nat,m ≤ nb ∧ i = .int .i64 m ∧ Hid (wr.ownsRow w.heap.size 3 1 v (m + 1) (kvs k (m + 1)) ∧ Below w.heap.size w wr)) (fun i _ _ => nb - (intOf i).toNat)
 case atStart => exact ⟨0,by omega,rfl,HI⟩
 case round =>
  obtain ⟨m,hm,rfl,HF⟩:=hrel
  clear HI y0 y1
  rcases Nat.lt_or_ge m nb with hml | hml
  ·have hmi:(m:Int) < (nb:Int):=by omega
   obtain ⟨hE,hW⟩:=HH.out _ HF.out.2
   have g0:=hE.tg (m + 1) (by omega) (by have:=HNB.out; omega)
   rw [Nat.add_sub_cancel] at g0
   have f2:=(hW.wa (m + 1) (by have:=HNB.out; omega)).cell1
   have hadd:(⟨G,0,none⟩:Addr).add m = ⟨G,m,none⟩:=by rw [add_at,Nat.zero_add]
   obtain ⟨g9,c9,hg9,_,_⟩:=HF.out.1.form (by omega)
   subst hg9
   clear hE hW
   go_wp2_with (at_builtin; refine wpList_append_lies _ rfl _ _ 23 rfl w.heap.size 3 i0 (.int .i64 0) 1 8 Tryz.underlying23 hi0 hq0 hq1 hq2 rfl (by decide) _ _ _ rfl (row_below HF.out.1 (new_block _ _)) ⟨wr.heap.size,0,none⟩ 1 1 [.int .i64 (k (m + 1):Nat)] rfl rfl (cell_one_new wr _ _) (by simp [Value.oneCell']) (by decide) (by simp only [maxLen]; omega) (by omega) (by simp; omega) (wr.heap.size + 1) (by simp) ?_; intro g1 c1 w3 hrA hgA haA hlA)
   have hb4:Below w.heap.size w w3:=by
    have hbx:=HF.out.2
    have hz:=hbx.size
    refine Below.grown (under.below_step hbx (new_block wr (.cells #[.int .i64 (k (m + 1):Nat)] 3))) hgA (by rw [World.size_alloc]; omega) fun x hx => ?_
    have h1:=HF.out.1.lt x hx
    exact h1.1
   rw [← kvs_snoc] at hrA
   have HN:=Lib.hid (And.intro hrA hb4)
   clear hrA hgA haA hlA hb4
   go_roundw
   case rel => exact ⟨m + 1,by omega,by simp,HN⟩
   case measure => simp [intOf]; omega
  ·obtain rfl:m = nb:=by omega
   obtain ⟨g9,c9,hg9,hgb,_⟩:=HF.out.1.form (by omega)
   subst hg9
   go_wp2
   go_ret
   refine ⟨g9,c9,by rw [HNB.out]; rfl,fun i hi => ?_,hgb,HF.out.2⟩
   have hi':i < m + 1:=by have:=HNB.out; omega
   rw [HF.out.1.cellAt i (by omega),kvs_at k _ i hi']
/-- those of the first j tables are put back -/
def kb (k k0:Nat → Nat) (j:Nat):Nat → Nat:=fun i => if i < j then k0 i else k i
theorem kb_next (k k0:Nat → Nat) (j:Nat):up (kb k k0 j) j (k0 j) = kb k k0 (j + 1):=by
 funext i; unfold up kb
 by_cases e:i = j
 ·subst e; rw [if_pos rfl,if_pos (by omega)]
 ·rw [if_neg e]
  by_cases e2:i < j
  ·rw [if_pos e2,if_pos (by omega)]
  ·rw [if_neg e2,if_neg (by omega)]
theorem kb_zero (k k0:Nat → Nat):kb k k0 0 = k:=by funext i; unfold kb; rw [if_neg (by omega)]
set_option maxRecDepth 20000 in
theorem rdagain_any {R E bare G c d next:Nat} {tk:Bool} {Z:Lay} {w0 w:World} {u:Nat → Tb} {k k0:Nat → Nat} (hN:Z.N = 2 ∨ Z.N = 3) (h:Dd R E bare tk w) (hE:EmAt E G c Z d next w) (hW:Wn w0 Z u k w) (hR:R ∉ Z.rall) (hEr:E ∉ Z.rall) (hG:G ∉ Z.rall) (B cB:Nat) (hB:∀ i,i < Z.N → w.cell? ⟨B,i,none⟩ = some (.int .i64 (k0 i:Nat))) (nB:B ∉ Z.rall) :
  Calls Tryz.prog 55 #[.pointer (some ⟨R,0,none⟩),.slice (some ⟨B,0,none⟩) Z.N cB] w fun e w' => e = .returned (.tuple #[]) ∧ Wn w0 Z u (kb k k0 Z.N) w' ∧ Past Z.rall w w':=by
 have y0:=Under.cell h.c0
 have y1:=Under.cell hE.c0
 have y2:=Under.cell (hB 0 (by omega))
 have HH:=Lib.hid (fun W (hp:Past Z.rall w W) => And.intro (h.past hp hR) (And.intro (hE.past hp hEr hG) (fun i (hi:i < Z.N) => hp.cell (hB i hi) nB)))
 have HW:=Lib.hid hW
 obtain ⟨nb,hnb⟩:∃ nb,Z.N = nb + 1:=⟨Z.N - 1,by omega⟩
 have HNB:=Lib.hid hnb
 have hnb2:nb ≤ 2:=by omega
 have hnp:(0:Int) < ((nb + 1:Nat):Int):=by omega
 have hn1:0 < nb + 1:=by omega
 rw [hnb]
 clear h hE hW hB hnb
 go_enter Tryz.func55,Tryz.ntmps55
 go_upto_region 0 with (fail)
 refine one.wp_region_one 12 _ (by kernel_rfl) (by kernel_rfl) rfl ?_
 simp only [List.take_succ_cons,List.take_zero,List.drop_succ_cons,List.drop_zero]
 repeat (quiet_step (fail))
 refine wpQuiet_nil ?_
 intro y Kc hKc
 have hw2:=HW.out.read y.below
 have f1:=(hw2.wa 0 (by have:=HNB.out; omega)).cell1
 have ff:∀ i,y.W.frozen? ⟨(Z.F 0).R,i,none⟩ = false:=fun i => frozen_of_row _ _ i _ _ (hw2.wa 0 (by have:=HNB.out; omega)).row
 obtain ⟨hs1,hs2⟩:=hw2.setK (i:=0) (by have:=HNB.out; omega) (k0 0)
 have hp2:=(Past.of (d:=Z.rall) y.below).trans hs2
 have HS:=Lib.hid (And.intro hs1 hp2)
 clear y0 y1 y2 hw2 hs1 hs2 hp2
 generalize y.W = w4 at *
 go_simp
 refine hKc _ _ ?_
 clear hKc Kc f1 ff
 refine wpQuiet_nil ?_
 intro y3
 have HS3:=Lib.hid (show Wn w0 Z u (kb k k0 (0 + 1)) y3.W ∧ Past Z.rall w y3.W from ⟨by rw [← kb_next,kb_zero]; exact HS.out.1.read y3.below,HS.out.2.trans (Past.of y3.below)⟩)
 clear HS
 generalize y3.W = w5 at *
 obtain ⟨hD5,hE5,hB5⟩:=HH.out _ HS3.out.2
 have z0:=hD5.c0
 have z1:=hE5.c1
 rw [HNB.out,Nat.add_sub_cancel] at z1
 clear hD5 hE5 hB5
 go_wp2
 go_loopw [26] (fun i wr => ∃ m:Nat,m ≤ nb ∧ i = .int .i64 m ∧ Hid (Wn w0 Z u (kb k k0 (m + 1)) wr ∧ Past Z.rall w wr)) (fun i _ => nb - (intOf i).toNat)
 case atStart => exact ⟨0,by omega,rfl,HS3⟩
 case round =>
  obtain ⟨m,hm,rfl,HF⟩:=hrel
  clear HS3 z0 z1
  rcases Nat.lt_or_ge m nb with hml | hml
  ·have hmi:(m:Int) < (nb:Int):=by omega
   obtain ⟨hD,hE,hB⟩:=HH.out _ HF.out.2
   have hi:m + 1 < Z.N:=by have:=HNB.out; omega
   have g0:=hE.tg (m + 1) (by omega) hi
   rw [Nat.add_sub_cancel] at g0
   have b0:=hB (m + 1) hi
   have f1:=(HF.out.1.wa (m + 1) hi).cell1
   have ff:∀ i,wr.frozen? ⟨(Z.F (m + 1)).R,i,none⟩ = false:=fun i => frozen_of_row _ _ i _ _ (HF.out.1.wa (m + 1) hi).row
   have hadd:(⟨G,0,none⟩:Addr).add m = ⟨G,m,none⟩:=by rw [add_at,Nat.zero_add]
   have hadd2:(⟨B,0,none⟩:Addr).add (m + 1) = ⟨B,m + 1,none⟩:=by rw [add_at,Nat.zero_add]
   have hw1:IntKind.i64.wrap ((m:Int) + 1) = ((m + 1:Nat):Int):=by rw [IntWalk.i64_in _ (by omega)]; omega
   have hlt:((m + 1:Nat):Int) < ((nb + 1:Nat):Int):=by omega
   have hlt2:m + 1 < nb + 1:=by omega
   have h0:(0:Int) ≤ ((m + 1:Nat):Int):=by omega
   obtain ⟨hs1,hs2⟩:=HF.out.1.setK hi (k0 (m + 1))
   rw [kb_next] at hs1
   have HN:=Lib.hid (And.intro hs1 (HF.out.2.trans hs2))
   clear hD hE hB hs1 hs2 hi
   go_wp2
   go_roundw
   case rel => exact ⟨m + 1,by omega,by simp,HN⟩
   case measure => simp [intOf]; omega
  ·obtain rfl:m = nb:=by omega
   go_wp2
   go_end0
   exact ⟨rfl,HF.out.1,HF.out.2⟩
end Go.Proofs.YtapndkabgjeofaaGreatDoor.dual

/-! ### dual: the document's dual, whole: rows, Find. -/
namespace Go.Proofs.YtapndkabgjeofaaGreatDoor.dual
open Go.ChangeShapes Go.WideShapes Go.ChangeAt Go.RowKit Go.Shelf swar under trap meter group probe lens tail call table evac
attribute [local go_sem] Oper.semAt_some stage.pureUpon move.stepUpon
set_option linter.unusedSimpArgs false
set_option linter.unusedVariables false

/-- the document's dual, its evacuation, its tables -/
structure Rd (w0:World) (R E G c d next bare:Nat) (tk:Bool) (Z:Lay) (u:Nat → Tb) (k:Nat → Nat) (W:World):Prop where
 dd:Dd R E bare tk W
 em:EmAt E G c Z d next W
 wn:Wn w0 Z u k W
 oR:R ∉ Z.rall
 oE:E ∉ Z.rall
 oG:G ∉ Z.rall
 N:Z.N = 2 ∨ Z.N = 3
 ld:d ≤ 15
 nRE:R ≠ E
 nRG:R ≠ G
section
variable {w0:World} {R E G c d next bare:Nat} {tk:Bool} {Z:Lay} {u u':Nat → Tb} {k k':Nat → Nat} {w W W':World}
theorem Rd.read (h:Rd w0 R E G c d next bare tk Z u k W) (hb:Below W.heap.size W W'):Rd w0 R E G c d next bare tk Z u k W':=⟨h.dd.keep hb,h.em.keep hb,h.wn.read hb,h.oR,h.oE,h.oG,h.N,h.ld,h.nRE,h.nRG⟩
/-- a step of its tables -/
theorem Rd.go (h:Rd w0 R E G c d next bare tk Z u k W) (hw:Wn w0 Z u' k' W') (hp:Past Z.rall W W'):Rd w0 R E G c d next bare tk Z u' k' W':=⟨h.dd.past hp h.oR,h.em.past hp h.oE h.oG,hw,h.oR,h.oE,h.oG,h.N,h.ld,h.nRE,h.nRG⟩
theorem Rd.rows (h:Rd w0 R E G c d next bare tk Z u k w) (hs:Nat) (hh:hs < 18446744073709551616):∀ W,Below w.heap.size w W → Calls Tryz.prog 54 #[.pointer (some ⟨R,0,none⟩),.int .u64 (hs:Nat)] W fun e w' => ∃ B cB,e = .returned (.slice (some ⟨B,0,none⟩) (js (decide (bare = 0)) Z.N d hs).length cB) ∧ (∀ i (hi:i < (js (decide (bare = 0)) Z.N d hs).length),w'.cell? ⟨B,i,none⟩ = some (.pointer (some ⟨(Z.F (js (decide (bare = 0)) Z.N d hs)[i]).R,0,none⟩))) ∧ W.heap.size ≤ B ∧ Below W.heap.size W w':=by
 intro W hb
 have hW:=h.read hb
 by_cases h0:bare = 0
 ·subst h0
  refine (rrows_yes hW.N hW.ld hW.dd hW.em hs hh).mono fun e w' ⟨B,he,c0,c1,hB,hb'⟩ => ⟨B,2,he,fun i hi => ?_,hB,hb'⟩
  have hi2:i < 2:=hi
  obtain rfl | rfl:i = 0 ∨ i = 1:=by omega
  ·exact c0
  ·exact c1
 ·have e0:decide (bare = 0) = false:=decide_eq_false h0
  rw [e0]
  refine (rrows_no hW.dd hW.em (by omega) hs).mono fun e w' ⟨B,he,c0,hB,hb'⟩ => ⟨B,1,he,fun i hi => ?_,hB,hb'⟩
  have hi2:i < 1:=hi
  obtain rfl:i = 0:=by omega
  exact c0
theorem js_in (hN:Z.N = 2 ∨ Z.N = 3) (rd:Bool) (hs:Nat):∀ i ∈ js rd Z.N d hs,i < Z.N:=fun i hi => by
 cases rd
 ·obtain rfl:i = 0:=by simpa [js] using hi
  omega
 ·have q:=tgt_lt hN d hs
  have : i = tgt Z.N d hs ∨ i = 0:=by simpa [js] using hi
  rcases this with rfl | rfl
  ·exact q
  ·omega
theorem Rd.find (h:Rd w0 R E G c d next bare tk Z u k w) (key hs:Nat) (hh:hs < 18446744073709551616) (hk:∀ i,i < Z.N → k i ≤ 1000000) :
  Calls Tryz.prog 19 #[.pointer (some ⟨R,0,none⟩),.int .u64 (key:Nat),.int .u64 (hs:Nat)] w fun e w' => e = .returned (.tuple #[group.entV (fndE u key hs (js (decide (bare = 0)) Z.N d hs)).key (fndE u key hs (js (decide (bare = 0)) Z.N d hs)).val (fndE u key hs (js (decide (bare = 0)) Z.N d hs)).hash,.int .i64 (pI u key hs (js (decide (bare = 0)) Z.N d hs))]) ∧ (∃ k',sumK Z.N k' = sumK Z.N k + fndK u key hs (js (decide (bare = 0)) Z.N d hs) ∧ Rd w0 R E G c d next bare tk Z u k' w') ∧ Past Z.rall w w':=by
 have hJ:(js (decide (bare = 0)) Z.N d hs).length ≤ 2:=by cases decide (bare = 0) <;> simp [js]
 refine (rdfind_any w0 Z u k key hs hh (js (decide (bare = 0)) Z.N d hs) hJ (js_in h.N _ hs) R w h.wn hk (h.rows hs hh)).mono fun e w' ⟨he,hw,hp⟩ => ⟨he,⟨_, ?_,h.go hw hp⟩,hp⟩
 rw [kst_sum h.N _ _ fun i hi => js_in h.N _ hs i (List.mem_of_mem_take hi),fndK_fpos]
set_option maxRecDepth 20000 in
/-- a step that prepares a group -/
theorem Rd.step_bare (h:Rd w0 R E G c d next bare tk Z u k w) (hb:0 < bare) (hb2:bare ≤ 1000) (hR0:w0.heap.size ≤ R) :
  Calls Tryz.prog 32 #[.pointer (some ⟨R,0,none⟩)] w fun e w' => e = .returned (.tuple #[.bool true,.bool false]) ∧ Rd w0 R E G c d next (bare - 1) tk Z u k w' ∧ Past [R] w w':=by
 have c1:=h.dd.c1
 have cf:=h.dd.fz
 have d1:decide ((0:Int) < (bare:Int)) = true:=decide_eq_true (by omega)
 have d2:decide (0 < bare) = true:=decide_eq_true hb
 have hw1:IntKind.i64.wrap ((bare:Int) - 1) = ((bare - 1:Nat):Int):=by rw [IntWalk.i64_in _ (by omega)]; omega
 have hw2:wrap64 ((bare:Int) - 1) = ((bare - 1:Nat):Int):=by unfold wrap64; omega
 have hp:Past [R] w (w.setCell ⟨R,1,none⟩ (.int .i64 (bare - 1:Nat))):=(Past.refl [R] w).store (p:=⟨R,1,none⟩) (.inl (by simp)) _
 have hR1:∀ b ∈ [R],w0.heap.size ≤ b ∧ b ∉ Z.rall:=fun b hb => by
  obtain rfl:b = R:=by simpa using hb
  exact ⟨hR0,h.oR⟩
 have hres:Rd w0 R E G c d next (bare - 1) tk Z u k (w.setCell ⟨R,1,none⟩ (.int .i64 (bare - 1:Nat))):=⟨h.dd.set1 _,h.em.past hp (by simp [Ne.symm h.nRE]) (by simp [Ne.symm h.nRG]),h.wn.past hp (h.wn.bel.trans (hp.below h.wn.bel.size fun b hb => (hR1 b hb).1)) fun b hb => (hR1 b hb).2,h.oR,h.oE,h.oG,h.N,h.ld,h.nRE,h.nRG⟩
 have HR:=Lib.hid (And.intro hres hp)
 clear h hb hp hR1 hres hb2
 generalize bare - 1 = b1 at *
 go_enter Tryz.func32,Tryz.ntmps32
 go_wp2
 go_ret2
 exact ⟨rfl,HR.out.1,HR.out.2⟩
end
end Go.Proofs.YtapndkabgjeofaaGreatDoor.dual

/-! ### dual: the document's dual: Put. -/
namespace Go.Proofs.YtapndkabgjeofaaGreatDoor.dual
open Go.ChangeShapes Go.WideShapes Go.ChangeAt Go.RowKit Go.Shelf swar under trap meter group probe lens tail call table evac
attribute [local go_sem] Oper.semAt_some stage.pureUpon move.stepUpon
set_option linter.unusedSimpArgs false
set_option linter.unusedVariables false

theorem kb_sum {N:Nat} (hN:N = 2 ∨ N = 3) (k k0:Nat → Nat):sumK N (kb k k0 N) = sumK N k0:=by
 rcases hN with rfl | rfl <;> simp [sumK,kb]
section
variable {w0:World} {R E G c d next bare:Nat} {tk:Bool} {Z:Lay} {u u':Nat → Tb} {k k' k0:Nat → Nat} {w W W':World}
theorem Rd.again (h:Rd w0 R E G c d next bare tk Z u k w) (B cB:Nat) (hB:∀ i,i < Z.N → w.cell? ⟨B,i,none⟩ = some (.int .i64 (k0 i:Nat))) (nB:B ∉ Z.rall) :
  Calls Tryz.prog 55 #[.pointer (some ⟨R,0,none⟩),.slice (some ⟨B,0,none⟩) Z.N cB] w fun e w' => e = .returned (.tuple #[]) ∧ Rd w0 R E G c d next bare tk Z u (kb k k0 Z.N) w' ∧ Past Z.rall w w':=
 (rdagain_any h.N h.dd h.em h.wn h.oR h.oE h.oG B cB hB nB).mono fun e w' ⟨he,hw,hp⟩ => ⟨he,h.go hw hp,hp⟩
theorem Rd.looks (h:Rd w0 R E G c d next bare tk Z u k w):Calls Tryz.prog 53 #[.pointer (some ⟨R,0,none⟩)] w fun e w' => ∃ B c,e = .returned (.slice (some ⟨B,0,none⟩) Z.N c) ∧ (∀ i,i < Z.N → w'.cell? ⟨B,i,none⟩ = some (.int .i64 (k i:Nat))) ∧ w.heap.size ≤ B ∧ Below w.heap.size w w':=rdlooks_any h.N h.dd h.em h.wn
set_option maxRecDepth 20000 in
/-- no new key is let in -/
theorem Rd.put_full (h:Rd w0 R E G c d next bare tk Z u k w) (key v hs:Nat) (hh:hs < 18446744073709551616) (hk:∀ i,i < Z.N → k i ≤ 1000000) (hf:fnd u key hs (js (decide (bare = 0)) Z.N d hs) = none) :
  Calls Tryz.prog 14 #[.pointer (some ⟨R,0,none⟩),group.entV key v hs,.bool false] w fun e w' => e = .returned (.tuple #[.bool false,.int .i64 2]) ∧ (∃ k',sumK Z.N k' = sumK Z.N k + fndK u key hs (js (decide (bare = 0)) Z.N d hs) ∧ Rd w0 R E G c d next bare tk Z u k' w') ∧ Past Z.rall w w':=by
 have b0:=new_block w (.cells #[.int .u64 (key:Nat),.int .u64 (v:Nat),.int .u64 (hs:Nat)] 43)
 have hX:=EBox.new key v hs w
 have x0:=hX.c0
 have x1:=hX.c1
 have x2:=hX.c2
 have cF:=(h.read b0).find key hs hh hk
 have eI:pI u key hs (js (decide (bare = 0)) Z.N d hs) = -1:=by unfold pI; rw [hf]; rfl
 rw [eI] at cF
 have HN:=Lib.hid h.N
 have hlt:∀ b ∈ Z.rall,b < w.heap.size:=fun b hb => h.wn.lts hb
 have HLT:=Lib.hid hlt
 clear h hk eI hf hlt hX
 generalize js (decide (bare = 0)) Z.N d hs = J at *
 generalize fndE u key hs J = en at *
 generalize fndK u key hs J = fk at *
 go_enter Tryz.func14,Tryz.ntmps14
 go_wp2_with (first
  | (go_at_call 19; refine cF.mono ?_; clear cF; rintro e w2 ⟨rfl,⟨k1,hk1,hd1⟩,hp2⟩; have hd3:=hd1.read (new_block w2 (.cells #[.int .u64 (en.key:Nat),.int .u64 (en.val:Nat),.int .u64 (en.hash:Nat)] 43)); have hp3:=((Past.of (d:=Z.rall) b0).trans hp2).trans (Past.of (new_block w2 (.cells #[.int .u64 (en.key:Nat),.int .u64 (en.val:Nat),.int .u64 (en.hash:Nat)] 43))); have cL:=hd3.looks)
  | (go_at_call 53; refine cL.mono ?_; clear cL; rintro e w4 ⟨B,cB,rfl,hB,hBn,hb4⟩; have nB:B ∉ Z.rall:=(fun e => by have h1:=HLT.out _ e; have h2:=hp3.size; omega); have cA:=(hd3.read hb4).again B cB hB nB)
  | (go_at_call 55; refine cA.mono ?_; clear cA; rintro e w5 ⟨rfl,hd5,hp5⟩))
 go_ret2
 exact ⟨rfl,⟨_,by rw [kb_sum HN.out]; exact hk1,hd5⟩,(hp3.trans (Past.of hb4)).trans hp5⟩
set_option maxRecDepth 20000 in
/-- how many groups all tables have; how many a search for the first entry looks at -/
theorem Rd.groups (h:Rd w0 R E G c d next bare tk Z u k w) :
  Calls Tryz.prog 23 #[.pointer (some ⟨R,0,none⟩)] w fun e w' => e = .returned (.tuple #[.int .i64 (sumK Z.N Z.n:Nat),.int .i64 ((if bare = 0 then sumK Z.N Z.n else Z.n 0:Nat):Int)]) ∧ w = w':=by
 have c0:=h.dd.c0
 have c1:=h.dd.c1
 have e0:=h.em.c0
 have len:∀ i,i < Z.N → w.cell? ⟨(Z.F i).R,0,none⟩ = some (.slice (some ⟨(Z.F i).G,0,none⟩) (Z.n i) (Z.F i).c) ∧ Z.n i ≤ 64:=fun i hi => by
  have f0:=(h.wn.wa i hi).cell0
  have hn:=h.wn.un i hi
  have hle:=okN_le (h.wn.uok i hi).n
  rw [hn] at f0 hle
  exact ⟨f0,hle⟩
 obtain ⟨f0,l0⟩:=len 0 (by have:=h.N; omega)
 obtain ⟨f1,l1⟩:=len 1 (by have:=h.N; omega)
 have g0:w.cell? ⟨G,0,none⟩ = some (.pointer (some ⟨(Z.F 1).R,0,none⟩)):=h.em.tg 1 (Nat.le_refl _) (by have:=h.N; omega)
 have eb:((bare:Int) == 0) = decide (bare = 0):=by
  by_cases e:bare = 0
  ·subst e; rfl
  ·rw [decide_eq_false e]; exact beq_eq_false_iff_ne.2 (by omega)
 rcases h.N with hN | hN
 ·have e1:w.cell? ⟨E,1,none⟩ = some (.slice (some ⟨G,0,none⟩) 1 c):=by have:=h.em.c1; rw [hN] at this; exact this
  rw [show sumK Z.N Z.n = Z.n 0 + Z.n 1 from if_neg (by omega)]
  have x1:IntKind.i64.wrap (((Z.n 0:Nat):Int) + ((Z.n 1:Nat):Int)) = ((Z.n 0 + Z.n 1:Nat):Int):=by rw [IntWalk.i64_in _ (by omega)]; omega
  clear h len
  generalize Z.n 0 = a0 at *
  generalize Z.n 1 = a1 at *
  by_cases hb:bare = 0
  ·subst hb
   rw [if_pos rfl]
   go_enter Tryz.func23,Tryz.ntmps23
   go_wp2
   refine wp_loop_rounds 2 ?_
   iterate 2
    rw [rounds_succ]
    go_wp2
   go_ret2
   exact ⟨by simp,rfl⟩
  ·rw [if_neg hb]
   have hb2:((bare:Int) == 0) = false:=beq_eq_false_iff_ne.2 (by omega)
   go_enter Tryz.func23,Tryz.ntmps23
   go_wp2
   refine wp_loop_rounds 2 ?_
   iterate 2
    rw [rounds_succ]
    go_wp2
   go_ret2
   exact ⟨by simp,rfl⟩
 ·have e1:w.cell? ⟨E,1,none⟩ = some (.slice (some ⟨G,0,none⟩) 2 c):=by have:=h.em.c1; rw [hN] at this; exact this
  obtain ⟨f2,l2⟩:=len 2 (by omega)
  have g1:w.cell? ⟨G,1,none⟩ = some (.pointer (some ⟨(Z.F 2).R,0,none⟩)):=h.em.tg 2 (by decide) (by omega)
  rw [show sumK Z.N Z.n = Z.n 0 + Z.n 1 + Z.n 2 from if_pos hN]
  have x1:IntKind.i64.wrap (((Z.n 0:Nat):Int) + ((Z.n 1:Nat):Int)) = ((Z.n 0:Nat):Int) + ((Z.n 1:Nat):Int):=IntWalk.i64_in _ (by omega)
  have x2:IntKind.i64.wrap (((Z.n 0:Nat):Int) + ((Z.n 1:Nat):Int) + ((Z.n 2:Nat):Int)) = ((Z.n 0:Nat):Int) + ((Z.n 1:Nat):Int) + ((Z.n 2:Nat):Int):=IntWalk.i64_in _ (by omega)
  clear h len
  generalize Z.n 0 = a0 at *
  generalize Z.n 1 = a1 at *
  generalize Z.n 2 = a2 at *
  by_cases hb:bare = 0
  ·subst hb
   rw [if_pos rfl]
   go_enter Tryz.func23,Tryz.ntmps23
   go_wp2
   refine wp_loop_rounds 3 ?_
   iterate 3
    rw [rounds_succ]
    go_wp2
   go_ret2
   exact ⟨by simp,rfl⟩
  ·rw [if_neg hb]
   have hb2:((bare:Int) == 0) = false:=beq_eq_false_iff_ne.2 (by omega)
   go_enter Tryz.func23,Tryz.ntmps23
   go_wp2
   refine wp_loop_rounds 3 ?_
   iterate 3
    rw [rounds_succ]
    go_wp2
   go_ret2
   exact ⟨by simp,rfl⟩
end
end Go.Proofs.YtapndkabgjeofaaGreatDoor.dual
