/- DualRfB: several texts in one: plain facts and laws for the walks. No program is named. -/
import Derived.Test.YtapndkabgjeofaaGreatDoorDualRfA
import Derived.Test.YtapndkabgjeofaaGreatDoorDualFd
import Derived.Test.YtapndkabgjeofaaGreatDoorRegs
import Derived.LoopTactic
import Derived.Deep.CutRange
import Derived.Deep.CutBlock
import Derived.Sort.QuietTacIn
import Derived.Test.YtapndkabgjeofaaGreatDoorEvacRf

/-! ### dual: the document's dual: Put, of a key that stands and of a new one. -/
namespace Go.Proofs.YtapndkabgjeofaaGreatDoor.dual
open Go.ChangeShapes Go.WideShapes Go.ChangeAt Go.RowKit Go.Shelf swar under trap meter group probe lens tail call table evac
attribute [local go_sem] Oper.semAt_some stage.pureUpon moves.stepUpon
set_option linter.unusedSimpArgs false
set_option linter.unusedVariables false

theorem putE_there {t:Tb} {key hs:Nat} (h:isThere t key hs = true):putE' t key hs = 0:=if_pos h
section
variable {w0:World} {R E G c d next bare:Nat} {tk:Bool} {Z:Lay} {u u':Nat → Tb} {k k' k0:Nat → Nat} {w W W':World}
set_option maxRecDepth 20000 in
set_option maxHeartbeats 1000000 in
/-- a key that stands -/
theorem Rd.put_old (h:Rd w0 R E G c d next bare tk Z u k w) (key v hs:Nat) (hkey:key < 18446744073709551616) (hv:v < 18446744073709551616) (hh:hs < 18446744073709551616) (hk:∀ i,i < Z.N → k i ≤ 1000000) (hks:sumK Z.N k + 128 ≤ 1000000) (more:Bool) (i:Nat) (hf:fnd u key hs (js (decide (bare = 0)) Z.N d hs) = some i) :
  Calls Tryz.prog 14 #[.pointer (some ⟨R,0,none⟩),group.entV key v hs,.bool more] w fun e w' => e = .returned (.tuple #[.bool false,.int .i64 0]) ∧ (∃ k',sumK Z.N k' = sumK Z.N k + fndK u key hs (js (decide (bare = 0)) Z.N d hs) ∧ Rd w0 R E G c d next bare tk Z (up u i ((u i).puts key hs v)) k' w') ∧ Past Z.rall w w':=by
 have b0:=new_block w (.cells #[.int .u64 (key:Nat),.int .u64 (v:Nat),.int .u64 (hs:Nat)] 43)
 have hX:=EBox.new key v hs w
 have x0:=hX.c0
 have x1:=hX.c1
 have x2:=hX.c2
 have cF:=(h.read b0).find key hs hh hk
 have HRW:=Lib.hid (fun (k':Nat → Nat) W (h:Rd w0 R E G c d next bare tk Z u k' W) => h.rows hs hh)
 have hJi:=js_in (d:=d) h.N (decide (bare = 0)) hs
 have hJ1:=(js_le (decide (bare = 0)) Z.N d hs).1
 have hJ2:=(js_le (decide (bare = 0)) Z.N d hs).2
 have hfk:=fndK_fpos u key hs (js (decide (bare = 0)) Z.N d hs)
 have hfkb:fndK u key hs (js (decide (bare = 0)) Z.N d hs) ≤ 128:=by
  rw [hfk]
  have h1:=lsum_le (u:=u) (key:=key) (h:=hs) ((js (decide (bare = 0)) Z.N d hs).take (fpos u key hs (js (decide (bare = 0)) Z.N d hs) + 1)) fun x hx => by
   have h1:=looks_le (u x) key hs
   have h2:=okN_le (h.wn.uok x (hJi x (List.mem_of_mem_take hx))).n
   omega
  rw [List.length_take] at h1
  omega
 have hfp:=fnd_fpos u key hs (js (decide (bare = 0)) Z.N d hs)
 rw [hf] at hfp
 obtain ⟨p,hp⟩:∃ p,fpos u key hs (js (decide (bare = 0)) Z.N d hs) = p:=⟨_,rfl⟩
 have eI:pI u key hs (js (decide (bare = 0)) Z.N d hs) = (p:Int):=by unfold pI; rw [hf,hp]; rfl
 rw [hp] at hfp
 have hpl:p < (js (decide (bare = 0)) Z.N d hs).length:=by
  apply Classical.byContradiction; intro hn
  rw [List.getElem?_eq_none (by omega)] at hfp
  cases hfp
 rw [List.getElem?_eq_getElem hpl] at hfp
 injection hfp with hfp
 have hi:i < Z.N:=hJi i (by rw [hfp]; exact List.getElem_mem _)
 rw [eI] at cF
 have HFP:=Lib.hid hfp
 have HPL:=Lib.hid hpl
 have HE0:=Lib.hid (putE_there (fnd_some hf).2)
 have HN:=Lib.hid h.N
 have hlt:∀ b ∈ Z.rall,b < w.heap.size:=fun b hb => h.wn.lts hb
 have HLT:=Lib.hid hlt
 clear h hk eI hf hlt hfk hp hJi
 generalize js (decide (bare = 0)) Z.N d hs = J at *
 generalize fndE u key hs J = en at *
 generalize fndK u key hs J = fk at *
 have hp2:p ≤ 1:=by omega
 have hp0:(0:Int) ≤ (p:Int):=by omega
 have dp0:decide ((0:Int) ≤ (p:Int)) = true:=decide_eq_true hp0
 have dpl:(p:Int) < (J.length:Int):=by omega
 clear hJ1
 go_enter Tryz.func14,Tryz.ntmps14
 go_upto_block 0 with (first
  | (go_at_call 19; refine cF.mono ?_; clear cF; rintro e w2 ⟨rfl,⟨k1,hk1,hd1⟩,hp2⟩; have hX2:=hX.past hp2 (fun e => by have:=HLT.out _ e; omega); have hX3:=hX2.keep (new_block w2 (.cells #[.int .u64 (en.key:Nat),.int .u64 (en.val:Nat),.int .u64 (en.hash:Nat)] 43)); have hd3:=hd1.read (new_block w2 (.cells #[.int .u64 (en.key:Nat),.int .u64 (en.val:Nat),.int .u64 (en.hash:Nat)] 43)); have hp3:=((Past.of (d:=Z.rall) b0).trans hp2).trans (Past.of (new_block w2 (.cells #[.int .u64 (en.key:Nat),.int .u64 (en.val:Nat),.int .u64 (en.hash:Nat)] 43))); have cL:=hd3.looks)
  | (go_at_call 53; refine cL.mono ?_; clear cL; rintro e w4 ⟨B,cB,rfl,hB,hBn,hb4⟩; have nB:B ∉ Z.rall:=(fun e => by have h1:=HLT.out _ e; have h2:=hp3.size; omega); have hd4:=hd3.read hb4; have hX4:=hX3.keep hb4; have z0:=hX4.c0; have z1:=hX4.c1; have z2:=hX4.c2))
 have cW:∀ W,Below w4.heap.size w4 W → Calls Tryz.prog 54 #[.pointer (some ⟨R,0,none⟩),.int .u64 (hs:Nat)] W fun e w' => ∃ B cB,e = .returned (.slice (some ⟨B,0,none⟩) J.length cB) ∧ w'.cell? ⟨B,p,none⟩ = some (.pointer (some ⟨(Z.F i).R,0,none⟩)) ∧ W.heap.size ≤ B ∧ Below W.heap.size W w':=fun W hb => (HRW.out k1 w4 hd4 W hb).mono fun e w' ⟨B,cB,h1,h2,h3,h4⟩ => ⟨B,cB,h1,by have:=h2 p HPL.out; rwa [← HFP.out] at this,h3,h4⟩
 have hKI:k1 i + 64 < 9223372036854775807:=by
  have:=sumK_ge HN.out k1 hi
  omega
 have HD4:=Lib.hid hd4
 have HB4:=Lib.hid (And.intro hB nB)
 have HP4:=Lib.hid (hp3.trans (Past.of hb4))
 have HK1:=Lib.hid hk1
 clear hd4 hd3 hd1 hB nB hp3 hk1 hX hX2 hX3 hX4 hb4 hBn hp2 b0 x0 x1 x2 hks hfkb hJ2 HRW
 generalize w.heap.size = X0 at *
 go_cut [11,12] from 13 to 57 (fun s11 s12 wx => s12 = .bool false ∧ s11 = .int .i64 0 ∧ Hid (∃ k',Rd w0 R E G c d next bare tk Z (up u i ((u i).puts key hs v)) k' wx ∧ Past Z.rall w4 wx))
 case first =>
  go_upto_region 6 with (fail)
  obtain ⟨PV,hPV⟩:∃ PV,(Value.pointer (some ⟨(Z.F i).R,0,none⟩)) = PV:=⟨_,rfl⟩
  rw [hPV] at cW
  refine rowreg.wp_region_rows p PV J.length 3 6 8 [false,false,false,true,false,false,false,false] _ rfl (by kernel_rfl) (by kernel_rfl) (by kernel_rfl) (by kernel_rfl) (by kernel_rfl) (by kernel_rfl) ?_
  have q0:∀ q:moves.Un (rowreg.LD w4 p PV),q.W.cell? ⟨X0,0,none⟩ = some (.int .u64 (key:Nat)):=fun q => keepc q.h.bel z0
  have q1:∀ q:moves.Un (rowreg.LD w4 p PV),q.W.cell? ⟨X0,1,none⟩ = some (.int .u64 (v:Nat)):=fun q => keepc q.h.bel z1
  have q2:∀ q:moves.Un (rowreg.LD w4 p PV),q.W.cell? ⟨X0,2,none⟩ = some (.int .u64 (hs:Nat)):=fun q => keepc q.h.bel z2
  haveI : Nonempty (moves.Un (rowreg.LD w4 p PV)):=⟨⟨[],w4,rowreg.LD.start _ _ _ (Below.refl _ _)⟩⟩
  have CW:=Lib.hid cW
  clear cW z0 z1 z2
  simp only [List.take_succ_cons,List.take_zero,List.drop_succ_cons,List.drop_zero]
  iterate 3
   refine late.pure_step (fun h => absurd h (by decide)) (fun _ _ _ => trivial) (fun K hK => ?_)
   go_simp
   refine hK _ ?_
   clear hK K
  refine late.move_step (fun h => absurd h (by decide)) (fun _ _ _ => trivial) (by kernel_rfl) (fun sd wd _ hd => ?_) ?_
  ·go_simp
   refine callsIn_wide.2 ((CW.out wd hd.bel).mono ?_)
   rintro e' w' ⟨B6,c6,rfl,q6,hB6,hb6⟩
   exact ⟨_,rfl,B6 :: sd,fun _ => ⟨B6,c6,rfl,rfl,w',hd.more hb6 hB6 q6⟩,hd.more hb6 hB6 q6⟩
  intro v3 s3 hM3 K hK
  obtain ⟨B6,c6,rfl,rfl,-⟩:=hM3 rfl
  refine hK _ ?_
  clear hK K hM3
  have hadd6:(⟨B6,0,none⟩:Addr).add p = ⟨B6,p,none⟩:=by rw [add_at,Nat.zero_add]
  iterate 2
   refine late.pure_step (fun h => absurd h (by decide)) (fun _ _ _ => trivial) (fun K hK => ?_)
   go_simp
   refine hK _ ?_
   clear hK K
  refine rowreg.known_step PV (fun _ _ _ => trivial) (by kernel_rfl) ?_ (fun s w hR hD => hR rfl w hD) (fun K hK => ?_)
  ·intro _ W hW
   obtain ⟨_,q6⟩:=hW.row B6 List.mem_cons_self
   clear q0 q1 q2
   go_simp
  refine hK _ ?_
  clear hK K
  refine late.pure_step (fun h => absurd h (by decide)) (fun _ _ _ => trivial) (fun K hK => ?_)
  go_simp
  refine hK _ ?_
  clear hK K
  refine late.nil_step ?_
  intro w6 hw6
  have hd6:=HD4.out.read hw6.bel
  have hp6:Past Z.rall w4 w6:=Past.of hw6.bel
  have cP:=hd6.wn.rput hi key hs v hkey hh hv hKI
  rw [hPV] at cP
  have HD6:=Lib.hid (And.intro hd6 hp6)
  clear hd6 hp6 hw6 q0 q1 q2 this CW
  refine ⟨by kernel_rfl, ?_⟩
  go_simp
  refine callsIn_wide.2 (cP.mono ?_)
  clear cP
  rintro e w7 ⟨rfl,hw7,hp7⟩
  refine ⟨_,rfl, ?_⟩
  have HD7:=Lib.hid (And.intro (HD6.out.1.go hw7 hp7) (HD6.out.2.trans hp7))
  clear hw7 hp7 HD6
  repeat (quiet_step_in (fail))
  refine wpQuietIn_nil ?_
  intro y
  have HD8:=Lib.hid (And.intro (HD7.out.1.read y.below) (HD7.out.2.trans (Past.of y.below)))
  clear HD7
  generalize y.W = w8 at *
  go_wp2_with (fail)
  go_meet
  refine ⟨rfl, ?_,Lib.hid ⟨_,HD8.out⟩⟩
  rw [← HFP.out,HE0.out]; rfl
 case rest =>
  obtain ⟨rfl,rfl,HC⟩:=hcut
  obtain ⟨k2,hd8,hp8⟩:=HC.out
  have cA:=hd8.again B cB (fun x hx => hp8.cell (HB4.out.1 x hx) HB4.out.2) HB4.out.2
  clear HC
  go_wp2_with (go_at_call 55; refine cA.mono ?_; clear cA; rintro e w9 ⟨rfl,hd9,hp9⟩)
  go_ret2
  exact ⟨rfl,⟨_,by rw [kb_sum HN.out]; exact HK1.out,hd9⟩,(HP4.out.trans hp8).trans hp9⟩
set_option maxRecDepth 20000 in
set_option maxHeartbeats 1000000 in
/-- a new key -/
theorem Rd.put_new (h:Rd w0 R E G c d next bare tk Z u k w) (key v hs:Nat) (hkey:key < 18446744073709551616) (hv:v < 18446744073709551616) (hh:hs < 18446744073709551616) (hk:∀ i,i < Z.N → k i ≤ 1000000) (hks:sumK Z.N k + 128 ≤ 1000000) (i:Nat) (hf:fnd u key hs (js (decide (bare = 0)) Z.N d hs) = none) (hi0:(js (decide (bare = 0)) Z.N d hs).headD 0 = i) :
  Calls Tryz.prog 14 #[.pointer (some ⟨R,0,none⟩),group.entV key v hs,.bool true] w fun e w' => e = .returned (.tuple #[.bool (putB' (u i) key hs),.int .i64 (putE' (u i) key hs:Nat)]) ∧ (∃ k',sumK Z.N k' = sumK Z.N k + fndK u key hs (js (decide (bare = 0)) Z.N d hs) ∧ Rd w0 R E G c d next bare tk Z (up u i ((u i).puts key hs v)) k' w') ∧ Past Z.rall w w':=by
 have b0:=new_block w (.cells #[.int .u64 (key:Nat),.int .u64 (v:Nat),.int .u64 (hs:Nat)] 43)
 have hX:=EBox.new key v hs w
 have x0:=hX.c0
 have x1:=hX.c1
 have x2:=hX.c2
 have cF:=(h.read b0).find key hs hh hk
 have HRW:=Lib.hid (fun (k':Nat → Nat) W (h:Rd w0 R E G c d next bare tk Z u k' W) => h.rows hs hh)
 have hJi:=js_in (d:=d) h.N (decide (bare = 0)) hs
 have hJ1:=(js_le (decide (bare = 0)) Z.N d hs).1
 have hJ2:=(js_le (decide (bare = 0)) Z.N d hs).2
 have hfk:=fndK_fpos u key hs (js (decide (bare = 0)) Z.N d hs)
 have hfkb:fndK u key hs (js (decide (bare = 0)) Z.N d hs) ≤ 128:=by
  rw [hfk]
  have h1:=lsum_le (u:=u) (key:=key) (h:=hs) ((js (decide (bare = 0)) Z.N d hs).take (fpos u key hs (js (decide (bare = 0)) Z.N d hs) + 1)) fun x hx => by
   have h1:=looks_le (u x) key hs
   have h2:=okN_le (h.wn.uok x (hJi x (List.mem_of_mem_take hx))).n
   omega
  rw [List.length_take] at h1
  omega
 have eI:pI u key hs (js (decide (bare = 0)) Z.N d hs) = -1:=by unfold pI; rw [hf]; rfl
 obtain ⟨p,hp⟩:∃ p,p = 0:=⟨_,rfl⟩
 have hpl:p < (js (decide (bare = 0)) Z.N d hs).length:=by omega
 have hfp:i = (js (decide (bare = 0)) Z.N d hs)[p]:=by subst hp; rw [head_at (by omega)]; exact hi0.symm
 have hi:i < Z.N:=hJi i (by rw [hfp]; exact List.getElem_mem _)
 rw [eI] at cF
 have HFP:=Lib.hid hfp
 have HPL:=Lib.hid hpl
 have HN:=Lib.hid h.N
 have hlt:∀ b ∈ Z.rall,b < w.heap.size:=fun b hb => h.wn.lts hb
 have HLT:=Lib.hid hlt
 clear h hk eI hf hlt hfk hJi hi0 hfp
 generalize js (decide (bare = 0)) Z.N d hs = J at *
 generalize fndE u key hs J = en at *
 generalize fndK u key hs J = fk at *
 have dpl:(0:Int) < (J.length:Int):=by omega
 have dpl2:0 < J.length:=by omega
 clear hJ1
 go_enter Tryz.func14,Tryz.ntmps14
 go_upto_block 0 with (first
  | (go_at_call 19; refine cF.mono ?_; clear cF; rintro e w2 ⟨rfl,⟨k1,hk1,hd1⟩,hp2⟩; have hX2:=hX.past hp2 (fun e => by have:=HLT.out _ e; omega); have hX3:=hX2.keep (new_block w2 (.cells #[.int .u64 (en.key:Nat),.int .u64 (en.val:Nat),.int .u64 (en.hash:Nat)] 43)); have hd3:=hd1.read (new_block w2 (.cells #[.int .u64 (en.key:Nat),.int .u64 (en.val:Nat),.int .u64 (en.hash:Nat)] 43)); have hp3:=((Past.of (d:=Z.rall) b0).trans hp2).trans (Past.of (new_block w2 (.cells #[.int .u64 (en.key:Nat),.int .u64 (en.val:Nat),.int .u64 (en.hash:Nat)] 43))); have cL:=hd3.looks)
  | (go_at_call 53; refine cL.mono ?_; clear cL; rintro e w4 ⟨B,cB,rfl,hB,hBn,hb4⟩; have nB:B ∉ Z.rall:=(fun e => by have h1:=HLT.out _ e; have h2:=hp3.size; omega); have hd4:=hd3.read hb4; have hX4:=hX3.keep hb4; have z0:=hX4.c0; have z1:=hX4.c1; have z2:=hX4.c2))
 have cW:∀ W,Below w4.heap.size w4 W → Calls Tryz.prog 54 #[.pointer (some ⟨R,0,none⟩),.int .u64 (hs:Nat)] W fun e w' => ∃ B cB,e = .returned (.slice (some ⟨B,0,none⟩) J.length cB) ∧ w'.cell? ⟨B,p,none⟩ = some (.pointer (some ⟨(Z.F i).R,0,none⟩)) ∧ W.heap.size ≤ B ∧ Below W.heap.size W w':=fun W hb => (HRW.out k1 w4 hd4 W hb).mono fun e w' ⟨B,cB,h1,h2,h3,h4⟩ => ⟨B,cB,h1,by have:=h2 p HPL.out; rwa [← HFP.out] at this,h3,h4⟩
 have hKI:k1 i + 64 < 9223372036854775807:=by
  have:=sumK_ge HN.out k1 hi
  omega
 have HD4:=Lib.hid hd4
 have HB4:=Lib.hid (And.intro hB nB)
 have HP4:=Lib.hid (hp3.trans (Past.of hb4))
 have HK1:=Lib.hid hk1
 clear hd4 hd3 hd1 hB nB hp3 hk1 hX hX2 hX3 hX4 hb4 hBn hp2 b0 x0 x1 x2 hks hfkb hJ2 HRW
 generalize w.heap.size = X0 at *

 subst hp
 go_cut [11,12] from 13 to 57 (fun s11 s12 wx => s12 = .bool (putB' (u i) key hs) ∧ s11 = .int .i64 (putE' (u i) key hs:Nat) ∧ Hid (∃ k',Rd w0 R E G c d next bare tk Z (up u i ((u i).puts key hs v)) k' wx ∧ Past Z.rall w4 wx))
 case first =>
  go_upto_region 4 with (fail)
  obtain ⟨PV,hPV⟩:∃ PV,(Value.pointer (some ⟨(Z.F i).R,0,none⟩)) = PV:=⟨_,rfl⟩
  rw [hPV] at cW
  refine rowreg.wp_region_rows 0 PV J.length 3 5 7 [false,false,false,true,false,false,false] _ rfl (by kernel_rfl) (by kernel_rfl) (by kernel_rfl) (by kernel_rfl) (by kernel_rfl) (by kernel_rfl) ?_
  have q0:∀ q:moves.Un (rowreg.LD w4 0 PV),q.W.cell? ⟨X0,0,none⟩ = some (.int .u64 (key:Nat)):=fun q => keepc q.h.bel z0
  have q1:∀ q:moves.Un (rowreg.LD w4 0 PV),q.W.cell? ⟨X0,1,none⟩ = some (.int .u64 (v:Nat)):=fun q => keepc q.h.bel z1
  have q2:∀ q:moves.Un (rowreg.LD w4 0 PV),q.W.cell? ⟨X0,2,none⟩ = some (.int .u64 (hs:Nat)):=fun q => keepc q.h.bel z2
  haveI : Nonempty (moves.Un (rowreg.LD w4 0 PV)):=⟨⟨[],w4,rowreg.LD.start _ _ _ (Below.refl _ _)⟩⟩
  have CW:=Lib.hid cW
  clear cW z0 z1 z2
  simp only [List.take_succ_cons,List.take_zero,List.drop_succ_cons,List.drop_zero]
  iterate 3
   refine late.pure_step (fun h => absurd h (by decide)) (fun _ _ _ => trivial) (fun K hK => ?_)
   go_simp
   refine hK _ ?_
   clear hK K
  refine late.move_step (fun h => absurd h (by decide)) (fun _ _ _ => trivial) (by kernel_rfl) (fun sd wd _ hd => ?_) ?_
  ·go_simp
   refine callsIn_wide.2 ((CW.out wd hd.bel).mono ?_)
   rintro e' w' ⟨B6,c6,rfl,q6,hB6,hb6⟩
   exact ⟨_,rfl,B6 :: sd,fun _ => ⟨B6,c6,rfl,rfl,w',hd.more hb6 hB6 q6⟩,hd.more hb6 hB6 q6⟩
  intro v3 s3 hM3 K hK
  obtain ⟨B6,c6,rfl,rfl,-⟩:=hM3 rfl
  refine hK _ ?_
  clear hK K hM3
  have hadd6:(⟨B6,0,none⟩:Addr).add 0 = ⟨B6,0,none⟩:=by rw [add_at,Nat.zero_add]
  iterate 1
   refine late.pure_step (fun h => absurd h (by decide)) (fun _ _ _ => trivial) (fun K hK => ?_)
   go_simp
   refine hK _ ?_
   clear hK K
  refine rowreg.known_step PV (fun _ _ _ => trivial) (by kernel_rfl) ?_ (fun s w hR hD => hR rfl w hD) (fun K hK => ?_)
  ·intro _ W hW
   obtain ⟨_,q6⟩:=hW.row B6 List.mem_cons_self
   clear q0 q1 q2
   go_simp
  refine hK _ ?_
  clear hK K
  refine late.pure_step (fun h => absurd h (by decide)) (fun _ _ _ => trivial) (fun K hK => ?_)
  go_simp
  refine hK _ ?_
  clear hK K
  refine late.nil_step ?_
  intro w6 hw6
  have hd6:=HD4.out.read hw6.bel
  have hp6:Past Z.rall w4 w6:=Past.of hw6.bel
  have cP:=hd6.wn.rput hi key hs v hkey hh hv hKI
  rw [hPV] at cP
  have HD6:=Lib.hid (And.intro hd6 hp6)
  clear hd6 hp6 hw6 q0 q1 q2 this CW
  refine ⟨by kernel_rfl, ?_⟩
  go_simp
  refine callsIn_wide.2 (cP.mono ?_)
  clear cP
  rintro e w7 ⟨rfl,hw7,hp7⟩
  refine ⟨_,rfl, ?_⟩
  have HD7:=Lib.hid (And.intro (HD6.out.1.go hw7 hp7) (HD6.out.2.trans hp7))
  clear hw7 hp7 HD6
  repeat (quiet_step_in (fail))
  refine wpQuietIn_nil ?_
  intro y
  have HD8:=Lib.hid (And.intro (HD7.out.1.read y.below) (HD7.out.2.trans (Past.of y.below)))
  clear HD7
  generalize y.W = w8 at *
  go_wp2_with (fail)
  go_meet
  exact ⟨rfl,rfl,Lib.hid ⟨_,HD8.out⟩⟩
 case rest =>
  obtain ⟨rfl,rfl,HC⟩:=hcut
  obtain ⟨k2,hd8,hp8⟩:=HC.out
  have cA:=hd8.again B cB (fun x hx => hp8.cell (HB4.out.1 x hx) HB4.out.2) HB4.out.2
  clear HC
  go_wp2_with (go_at_call 55; refine cA.mono ?_; clear cA; rintro e w9 ⟨rfl,hd9,hp9⟩)
  go_ret2
  exact ⟨rfl,⟨_,by rw [kb_sum HN.out]; exact HK1.out,hd9⟩,(HP4.out.trans hp8).trans hp9⟩
/-- Put -/
theorem Rd.put (h:Rd w0 R E G c d next bare tk Z u k w) (key v hs:Nat) (hkey:key < 18446744073709551616) (hv:v < 18446744073709551616) (hh:hs < 18446744073709551616) (hks:sumK Z.N k + 128 ≤ 1000000) (more:Bool) :
  Calls Tryz.prog 14 #[.pointer (some ⟨R,0,none⟩),group.entV key v hs,.bool more] w fun e w' => e = .returned (.tuple #[.bool (dB u key hs (js (decide (bare = 0)) Z.N d hs) more),.int .i64 (dE u key hs (js (decide (bare = 0)) Z.N d hs) more:Nat)]) ∧ (∃ k',sumK Z.N k' = sumK Z.N k + fndK u key hs (js (decide (bare = 0)) Z.N d hs) ∧ Rd w0 R E G c d next bare tk Z (dT u key hs v (js (decide (bare = 0)) Z.N d hs) more) k' w') ∧ Past Z.rall w w':=by
 have hk:∀ i,i < Z.N → k i ≤ 1000000:=fun i hi => by have:=sumK_ge h.N k hi; omega
 cases hf:fnd u key hs (js (decide (bare = 0)) Z.N d hs) with
 | some i =>
  obtain ⟨e1,e2,e3⟩:=put_found (v:=v) (more:=more) hf
  rw [e1,e2,e3]
  exact h.put_old key v hs hkey hv hh hk hks more i hf
 | none =>
  cases more with
  | false =>
   obtain ⟨e1,e2,e3⟩:=put_off (v:=v) hf
   rw [e1,e2,e3]
   exact h.put_full key v hs hh hk hf
  | true =>
   obtain ⟨e1,e2,e3⟩:=put_on (v:=v) hf
   rw [e1,e2,e3]
   exact h.put_new key v hs hkey hv hh hk hks _ hf rfl
end
end Go.Proofs.YtapndkabgjeofaaGreatDoor.dual

/-! ### dual: the document's dual: Delete; how often its tables were looked at in all. -/
namespace Go.Proofs.YtapndkabgjeofaaGreatDoor.dual
open Go.ChangeShapes Go.WideShapes Go.ChangeAt Go.RowKit Go.Shelf swar under trap meter group probe lens tail call table evac
attribute [local go_sem] Oper.semAt_some stage.pureUpon move.stepUpon
set_option linter.unusedSimpArgs false
set_option linter.unusedVariables false

section
variable {w0:World} {R E G c d next bare:Nat} {tk:Bool} {Z:Lay} {u u':Nat → Tb} {k k' k0:Nat → Nat} {w W W':World}
theorem Rd.lR (h:Rd w0 R E G c d next bare tk Z u k W):R < W.heap.size ∧ E < W.heap.size ∧ G < W.heap.size:=⟨h.dd.lt,h.em.lt,h.em.lg⟩
/-- a step that writes none of its blocks -/
theorem Rd.aside {l:List Nat} (h:Rd w0 R E G c d next bare tk Z u k W) (hp:Past l W W') (hl:∀ b ∈ l,w0.heap.size ≤ b ∧ b ≠ R ∧ b ≠ E ∧ b ≠ G ∧ b ∉ Z.rall):Rd w0 R E G c d next bare tk Z u k W':=
 ⟨h.dd.past hp fun e => (hl _ e).2.1 rfl,h.em.past hp (fun e => (hl _ e).2.2.1 rfl) (fun e => (hl _ e).2.2.2.1 rfl),h.wn.past hp (h.wn.bel.trans (hp.below h.wn.bel.size fun b hb => (hl b hb).1)) fun b hb => (hl b hb).2.2.2.2,h.oR,h.oE,h.oG,h.N,h.ld,h.nRE,h.nRG⟩
/-- a cell of a block that is none of its own is stored into -/
theorem Rd.newset (h:Rd w0 R E G c d next bare tk Z u k W) {X:Nat} (h0:w0.heap.size ≤ X) (hX:X ≠ R ∧ X ≠ E ∧ X ≠ G ∧ X ∉ Z.rall) (i:Nat) (v:Value):Rd w0 R E G c d next bare tk Z u k (W.setCell ⟨X,i,none⟩ v):=
 h.aside (l:=[X]) ((Past.refl [X] W).store (p:=⟨X,i,none⟩) (.inl (by simp)) v) fun b hb => by
  obtain rfl:b = X:=by simpa using hb
  exact ⟨h0,hX⟩
set_option maxRecDepth 20000 in
set_option maxHeartbeats 1000000 in
theorem Rd.delete_none (h:Rd w0 R E G c d next bare tk Z u k w) (key hs:Nat) (hkey:key < 18446744073709551616) (hh:hs < 18446744073709551616) (hks:sumK Z.N k + 128 ≤ 1000000) (hf:fnd u key hs (js (decide (bare = 0)) Z.N d hs) = none) :
  Calls Tryz.prog 17 #[.pointer (some ⟨R,0,none⟩),.int .u64 (key:Nat),.int .u64 (hs:Nat)] w fun e w' => e = .returned (.tuple #[group.entV (fndE u key hs (js (decide (bare = 0)) Z.N d hs)).key (fndE u key hs (js (decide (bare = 0)) Z.N d hs)).val (fndE u key hs (js (decide (bare = 0)) Z.N d hs)).hash,.bool false]) ∧ (∃ k',sumK Z.N k' = sumK Z.N k + fndK u key hs (js (decide (bare = 0)) Z.N d hs) ∧ Rd w0 R E G c d next bare tk Z u k' w') ∧ Past Z.rall w w':=by
 have hk:∀ i,i < Z.N → k i ≤ 1000000:=fun i hi => by have:=sumK_ge h.N k hi; omega
 have b0:=new_block w (.cells #[.int .u64 0,.int .u64 0,.int .u64 0] 43)
 have hR:=EBox.new 0 0 0 w
 have cF:=(h.read b0).find key hs hh hk
 have hlR:=h.lR
 have hw0:=h.wn.bel.size
 have HRW:=Lib.hid (fun (k':Nat → Nat) W (h:Rd w0 R E G c d next bare tk Z u k' W) => h.rows hs hh)
 have hJi:=js_in (d:=d) h.N (decide (bare = 0)) hs
 have hJ1:=(js_le (decide (bare = 0)) Z.N d hs).1
 have hJ2:=(js_le (decide (bare = 0)) Z.N d hs).2
 have hfk:=fndK_fpos u key hs (js (decide (bare = 0)) Z.N d hs)
 have hfkb:fndK u key hs (js (decide (bare = 0)) Z.N d hs) ≤ 128:=by
  rw [hfk]
  have h1:=lsum_le (u:=u) (key:=key) (h:=hs) ((js (decide (bare = 0)) Z.N d hs).take (fpos u key hs (js (decide (bare = 0)) Z.N d hs) + 1)) fun x hx => by
   have h1:=looks_le (u x) key hs
   have h2:=okN_le (h.wn.uok x (hJi x (List.mem_of_mem_take hx))).n
   omega
  rw [List.length_take] at h1
  omega
 have eI:pI u key hs (js (decide (bare = 0)) Z.N d hs) = -1:=by unfold pI; rw [hf]; rfl
 rw [eI] at cF
 have HN:=Lib.hid h.N
 have hlt:∀ b ∈ Z.rall,b < w.heap.size:=fun b hb => h.wn.lts hb
 have HLT:=Lib.hid hlt
 clear h hk eI hf hlt hfk hJi
 generalize js (decide (bare = 0)) Z.N d hs = J at *
 generalize fndE u key hs J = en at *
 generalize fndK u key hs J = fk at *
 go_enter Tryz.func17,Tryz.ntmps17
 go_upto_region 6 with (first
  | (go_at_call 19; refine cF.mono ?_; clear cF; rintro e w2 ⟨rfl,⟨k1,hk1,hd1⟩,hp2⟩; have b2:=new_block w2 (.cells #[.int .u64 (en.key:Nat),.int .u64 (en.val:Nat),.int .u64 (en.hash:Nat)] 43); have hX3:=EBox.new en.key en.val en.hash w2; have hR3:=(hR.past hp2 (fun e => by have:=HLT.out _ e; omega)).keep b2; have hd3:=hd1.read b2; have hp3:=((Past.of (d:=Z.rall) b0).trans hp2).trans (Past.of b2); have hs2:=hp2.size; have cL:=hd3.looks)
  | (go_at_call 53; refine cL.mono ?_; clear cL; rintro e w4 ⟨B,cB,rfl,hB,hBn,hb4⟩; have nB:B ∉ Z.rall:=(fun e => by have h1:=HLT.out _ e; have h2:=hp3.size; omega); have hd4:=hd3.read hb4; have hX4:=hX3.keep hb4; have hR4:=hR3.keep hb4; have hp4:=hp3.trans (Past.of hb4); have cA:=hd4.again B cB hB nB)
  | (go_at_call 55; refine cA.mono ?_; clear cA; rintro e w9 ⟨rfl,hd9,hp9⟩; have hX9:=hX4.past hp9 (fun e => by have:=HLT.out _ e; rw [World.size_alloc] at hs2; omega); have hR9:=hR4.past hp9 (fun e => by have:=HLT.out _ e; omega); have hpF:=hp4.trans hp9))
 have HK:=Lib.hid (fun q => show sumK Z.N (kb q k1 Z.N) = sumK Z.N k + fk from (kb_sum HN.out q k1).trans hk1)
 have y0:=hX9.c0
 have y1:=hX9.c1
 have y2:=hX9.c2
 have r0:=hR9.c0
 have r1:=hR9.c1
 have r2:=hR9.c2
 have r3:=hR9.fz
 rw [World.size_alloc] at hs2
 have hne:w2.heap.size ≠ w.heap.size:=by omega
 have HF:=Lib.hid (And.intro hd9 hpF)
 have HNX:=Lib.hid (show w.heap.size ≠ R ∧ w.heap.size ≠ E ∧ w.heap.size ≠ G ∧ w.heap.size ∉ Z.rall from ⟨by omega,by omega,by omega,fun e => by have:=HLT.out _ e; omega⟩)
 have HW0:=Lib.hid hw0
 clear hX9 hR9 hd9 hpF hs2 hw0 hlR
 go_wp2
 refine bodyPost_ret (v:=.tuple #[group.entV en.key en.val en.hash,.bool false]) (by simp [results,Tryz.results17,go_sem,r0,r1,r2,hne]) rfl ⟨rfl, ?_, ?_⟩
 ·exact ⟨_,HK.out _,(((HF.out.1.newset HW0.out HNX.out 0 _).newset HW0.out HNX.out 1 _).newset HW0.out HNX.out 2 _)⟩
 ·exact past_newset (past_newset (past_newset HF.out.2 (Nat.le_refl _) 0 _) (Nat.le_refl _) 1 _) (Nat.le_refl _) 2 _
set_option maxRecDepth 20000 in
set_option maxHeartbeats 1000000 in
theorem Rd.delete_some (h:Rd w0 R E G c d next bare tk Z u k w) (key hs:Nat) (hkey:key < 18446744073709551616) (hh:hs < 18446744073709551616) (hks:sumK Z.N k + 128 ≤ 1000000) (i:Nat) (hf:fnd u key hs (js (decide (bare = 0)) Z.N d hs) = some i) :
  Calls Tryz.prog 17 #[.pointer (some ⟨R,0,none⟩),.int .u64 (key:Nat),.int .u64 (hs:Nat)] w fun e w' => e = .returned (.tuple #[group.entV (fndE u key hs (js (decide (bare = 0)) Z.N d hs)).key (fndE u key hs (js (decide (bare = 0)) Z.N d hs)).val (fndE u key hs (js (decide (bare = 0)) Z.N d hs)).hash,.bool true]) ∧ (∃ k',sumK Z.N k' = sumK Z.N k + fndK u key hs (js (decide (bare = 0)) Z.N d hs) ∧ Rd w0 R E G c d next bare tk Z (up u i ((u i).remove key hs)) k' w') ∧ Past Z.rall w w':=by
 have hk:∀ i,i < Z.N → k i ≤ 1000000:=fun i hi => by have:=sumK_ge h.N k hi; omega
 have b0:=new_block w (.cells #[.int .u64 0,.int .u64 0,.int .u64 0] 43)
 have hR:=EBox.new 0 0 0 w
 have cF:=(h.read b0).find key hs hh hk
 have hlR:=h.lR
 have hw0:=h.wn.bel.size
 have HRW:=Lib.hid (fun (k':Nat → Nat) W (h:Rd w0 R E G c d next bare tk Z u k' W) => h.rows hs hh)
 have hJi:=js_in (d:=d) h.N (decide (bare = 0)) hs
 have hJ1:=(js_le (decide (bare = 0)) Z.N d hs).1
 have hJ2:=(js_le (decide (bare = 0)) Z.N d hs).2
 have hfk:=fndK_fpos u key hs (js (decide (bare = 0)) Z.N d hs)
 have hfkb:fndK u key hs (js (decide (bare = 0)) Z.N d hs) ≤ 128:=by
  rw [hfk]
  have h1:=lsum_le (u:=u) (key:=key) (h:=hs) ((js (decide (bare = 0)) Z.N d hs).take (fpos u key hs (js (decide (bare = 0)) Z.N d hs) + 1)) fun x hx => by
   have h1:=looks_le (u x) key hs
   have h2:=okN_le (h.wn.uok x (hJi x (List.mem_of_mem_take hx))).n
   omega
  rw [List.length_take] at h1
  omega
 have hfp:=fnd_fpos u key hs (js (decide (bare = 0)) Z.N d hs)
 rw [hf] at hfp
 obtain ⟨p,hp⟩:∃ p,fpos u key hs (js (decide (bare = 0)) Z.N d hs) = p:=⟨_,rfl⟩
 have eI:pI u key hs (js (decide (bare = 0)) Z.N d hs) = (p:Int):=by unfold pI; rw [hf,hp]; rfl
 rw [hp] at hfp
 have hpl:p < (js (decide (bare = 0)) Z.N d hs).length:=by
  apply Classical.byContradiction; intro hn
  rw [List.getElem?_eq_none (by omega)] at hfp
  cases hfp
 rw [List.getElem?_eq_getElem hpl] at hfp
 injection hfp with hfp
 have hi:i < Z.N:=hJi i (by rw [hfp]; exact List.getElem_mem _)
 rw [eI] at cF
 have HFP:=Lib.hid hfp
 have HPL:=Lib.hid hpl
 clear hp
 have HN:=Lib.hid h.N
 have hlt:∀ b ∈ Z.rall,b < w.heap.size:=fun b hb => h.wn.lts hb
 have HLT:=Lib.hid hlt
 clear h hk eI hf hlt hfk hJi
 generalize js (decide (bare = 0)) Z.N d hs = J at *
 generalize fndE u key hs J = en at *
 generalize fndK u key hs J = fk at *
 have hp0:(0:Int) ≤ (p:Int):=by omega
 have dp0:decide ((0:Int) ≤ (p:Int)) = true:=decide_eq_true hp0
 have dpl:(p:Int) < (J.length:Int):=by omega
 clear hJ1 hJ2 hfp
 go_enter Tryz.func17,Tryz.ntmps17
 go_upto_region 6 with (first
  | (go_at_call 19; refine cF.mono ?_; clear cF; rintro e w2 ⟨rfl,⟨k1,hk1,hd1⟩,hp2⟩; have b2:=new_block w2 (.cells #[.int .u64 (en.key:Nat),.int .u64 (en.val:Nat),.int .u64 (en.hash:Nat)] 43); have hX3:=EBox.new en.key en.val en.hash w2; have hR3:=(hR.past hp2 (fun e => by have:=HLT.out _ e; omega)).keep b2; have hd3:=hd1.read b2; have hp3:=((Past.of (d:=Z.rall) b0).trans hp2).trans (Past.of b2); have hs2:=hp2.size; have cL:=hd3.looks)
  | (go_at_call 53; refine cL.mono ?_; clear cL; rintro e w4 ⟨B,cB,rfl,hB,hBn,hb4⟩; have nB:B ∉ Z.rall:=(fun e => by have h1:=HLT.out _ e; have h2:=hp3.size; omega); have hd4:=hd3.read hb4; have hX4:=hX3.keep hb4; have hR4:=hR3.keep hb4; have hp4:=hp3.trans (Past.of hb4); have cW:=HRW.out k1 w4 hd4; have hKI:k1 i + 64 < 9223372036854775807:=(by have:=sumK_ge HN.out k1 hi; omega))
  | (go_at_call 54; refine (cW _ (Below.refl _ _)).mono ?_; clear cW; rintro e w6 ⟨B6,c6,rfl,hP6,hB6,hb6⟩; have q6:=hP6 p HPL.out; rw [← HFP.out] at q6; clear hP6; have hadd6:(⟨B6,0,none⟩:Addr).add p = ⟨B6,p,none⟩:=(by rw [add_at,Nat.zero_add]); have hd6:=hd4.read hb6; have hp6:=hp4.trans (Past.of hb6); have hX6:=hX4.keep hb6; have hR6:=hR4.keep hb6; have cP:=hd6.wn.rdelete hi key hs hkey hh hKI)
  | (go_at_call 59; refine cP.mono ?_; clear cP; rintro e w7 ⟨rfl,hw7,hp7⟩; have hd7:=hd6.go hw7 hp7; have hX7:=hX6.past hp7 (fun e => by have:=HLT.out _ e; rw [World.size_alloc] at hs2; omega); have hR7:=hR6.past hp7 (fun e => by have:=HLT.out _ e; omega); have cA:=hd7.again B cB (fun x hx => hp7.cell (keepc hb6 (hB x hx)) nB) nB)
  | (go_at_call 55; refine cA.mono ?_; clear cA; rintro e w9 ⟨rfl,hd9,hp9⟩; have hX9:=hX7.past hp9 (fun e => by have:=HLT.out _ e; rw [World.size_alloc] at hs2; omega); have hR9:=hR7.past hp9 (fun e => by have:=HLT.out _ e; omega); have hpF:=(hp6.trans hp7).trans hp9))
 have HK:=Lib.hid (fun q => show sumK Z.N (kb q k1 Z.N) = sumK Z.N k + fk from (kb_sum HN.out q k1).trans hk1)
 have y0:=hX9.c0
 have y1:=hX9.c1
 have y2:=hX9.c2
 have r0:=hR9.c0
 have r1:=hR9.c1
 have r2:=hR9.c2
 have r3:=hR9.fz
 rw [World.size_alloc] at hs2
 have hne:w2.heap.size ≠ w.heap.size:=by omega
 have HF:=Lib.hid (And.intro hd9 hpF)
 have HNX:=Lib.hid (show w.heap.size ≠ R ∧ w.heap.size ≠ E ∧ w.heap.size ≠ G ∧ w.heap.size ∉ Z.rall from ⟨by omega,by omega,by omega,fun e => by have:=HLT.out _ e; omega⟩)
 have HW0:=Lib.hid hw0
 clear hX9 hR9 hd9 hpF hs2 hw0 hlR
 go_wp2
 refine bodyPost_ret (v:=.tuple #[group.entV en.key en.val en.hash,.bool true]) (by simp [results,Tryz.results17,go_sem,r0,r1,r2,hne]) rfl ⟨rfl, ?_, ?_⟩
 ·exact ⟨_,HK.out _,(((HF.out.1.newset HW0.out HNX.out 0 _).newset HW0.out HNX.out 1 _).newset HW0.out HNX.out 2 _)⟩
 ·exact past_newset (past_newset (past_newset HF.out.2 (Nat.le_refl _) 0 _) (Nat.le_refl _) 1 _) (Nat.le_refl _) 2 _
/-- Delete -/
theorem Rd.delete (h:Rd w0 R E G c d next bare tk Z u k w) (key hs:Nat) (hkey:key < 18446744073709551616) (hh:hs < 18446744073709551616) (hks:sumK Z.N k + 128 ≤ 1000000) :
  Calls Tryz.prog 17 #[.pointer (some ⟨R,0,none⟩),.int .u64 (key:Nat),.int .u64 (hs:Nat)] w fun e w' => e = .returned (.tuple #[group.entV (fndE u key hs (js (decide (bare = 0)) Z.N d hs)).key (fndE u key hs (js (decide (bare = 0)) Z.N d hs)).val (fndE u key hs (js (decide (bare = 0)) Z.N d hs)).hash,.bool (fnd u key hs (js (decide (bare = 0)) Z.N d hs)).isSome]) ∧ (∃ k',sumK Z.N k' = sumK Z.N k + fndK u key hs (js (decide (bare = 0)) Z.N d hs) ∧ Rd w0 R E G c d next bare tk Z (eT u key hs (js (decide (bare = 0)) Z.N d hs)) k' w') ∧ Past Z.rall w w':=by
 cases hf:fnd u key hs (js (decide (bare = 0)) Z.N d hs) with
 | none =>
  rw [del_off hf]
  exact h.delete_none key hs hkey hh hks hf
 | some i =>
  rw [del_found hf]
  exact h.delete_some key hs hkey hh hks i hf
set_option maxRecDepth 20000 in
/-- how often its tables were looked at -/
theorem Rd.lks (h:Rd w0 R E G c d next bare tk Z u k w) (hks:sumK Z.N k ≤ 1000000) :
  Calls Tryz.prog 10 #[.pointer (some ⟨E,0,none⟩)] w fun e w' => e = .returned (.int .i64 (sumK Z.N k:Nat)) ∧ w = w':=by
 have hN:=h.N
 have hE:=h.em
 have hk:=fun i (hi:i < Z.N) => sumK_ge hN k hi
 have h0:=(h.wn.wa 0 (by omega)).cell1
 have h1:=(h.wn.wa 1 (by omega)).cell1
 have k0:=hk 0 (by omega)
 have k1:=hk 1 (by omega)
 have e0:=hE.c0
 have g0:w.cell? ⟨G,0,none⟩ = some (.pointer (some ⟨(Z.F 1).R,0,none⟩)):=hE.tg 1 (Nat.le_refl _) (by omega)
 rcases hN with hN | hN
 ·have e1:w.cell? ⟨E,1,none⟩ = some (.slice (some ⟨G,0,none⟩) 1 c):=by have:=hE.c1; rw [hN] at this; exact this
  rw [show sumK Z.N k = k 0 + k 1 from if_neg (by omega)] at *
  have x1:IntKind.i64.wrap (((k 0:Nat):Int) + ((k 1:Nat):Int)) = ((k 0 + k 1:Nat):Int):=by rw [IntWalk.i64_in _ (by omega)]; omega
  clear hE h hk
  generalize k 0 = a0 at *
  generalize k 1 = a1 at *
  go_enter Tryz.func10,Tryz.ntmps10
  go_wp2
  refine wp_loop_rounds 2 ?_
  iterate 2
   rw [rounds_succ]
   go_wp2
  go_ret
  exact ⟨by simp,rfl⟩
 ·have e1:w.cell? ⟨E,1,none⟩ = some (.slice (some ⟨G,0,none⟩) 2 c):=by have:=hE.c1; rw [hN] at this; exact this
  have h2:=(h.wn.wa 2 (by omega)).cell1
  have k2:=hk 2 (by omega)
  have g1:w.cell? ⟨G,1,none⟩ = some (.pointer (some ⟨(Z.F 2).R,0,none⟩)):=hE.tg 2 (by decide) (by omega)
  rw [show sumK Z.N k = k 0 + k 1 + k 2 from if_pos hN] at *
  have x1:IntKind.i64.wrap (((k 0:Nat):Int) + ((k 1:Nat):Int)) = ((k 0:Nat):Int) + ((k 1:Nat):Int):=IntWalk.i64_in _ (by omega)
  have x2:IntKind.i64.wrap (((k 0:Nat):Int) + ((k 1:Nat):Int) + ((k 2:Nat):Int)) = ((k 0:Nat):Int) + ((k 1:Nat):Int) + ((k 2:Nat):Int):=IntWalk.i64_in _ (by omega)
  clear hE h hk
  generalize k 0 = a0 at *
  generalize k 1 = a1 at *
  generalize k 2 = a2 at *
  go_enter Tryz.func10,Tryz.ntmps10
  go_wp2
  refine wp_loop_rounds 3 ?_
  iterate 3
   rw [rounds_succ]
   go_wp2
  go_ret
  exact ⟨by simp,rfl⟩
end
end Go.Proofs.YtapndkabgjeofaaGreatDoor.dual

/-! ### dual: the document's dual: All. -/
namespace Go.Proofs.YtapndkabgjeofaaGreatDoor.dual
open Go.ChangeShapes Go.WideShapes Go.ChangeAt Go.RowKit Go.Shelf swar under trap meter group probe lens tail call table evac
attribute [local go_sem] Oper.semAt_some stage.pureUpon move.stepUpon
set_option linter.unusedSimpArgs false
set_option linter.unusedVariables false

/-- the entries of the first so many tables -/
def entsA (u:Nat → Tb) (n:Nat):List Sl:=(List.range n).flatMap fun i => ents (u i) (u i).n
theorem entsA_succ (u:Nat → Tb) (n:Nat):entsA u (n + 1) = entsA u n ++ ents (u n) (u n).n:=by simp [entsA,List.range_succ]
theorem entsA_one (u:Nat → Tb):entsA u 1 = ents (u 0) (u 0).n:=by simp [entsA]
theorem entsA_le {u:Nat → Tb} {N:Nat} (h:∀ i,i < N → (u i).n ≤ 64):∀ k,k ≤ N → (entsA u k).length ≤ 512 * k
 | 0,_ => by simp [entsA]
 | k + 1,hk => by
  have h1:=entsA_le h k (by omega)
  have h2:=table.ents_le (u k) (u k).n
  have h3:=h k (by omega)
  rw [entsA_succ,List.length_append]; omega
section
variable {w0:World} {R E G c d next bare:Nat} {tk:Bool} {Z:Lay} {u u':Nat → Tb} {k k' k0:Nat → Nat} {w W W':World}
set_option maxRecDepth 20000 in
set_option maxHeartbeats 1000000 in
theorem Rd.all (h:Rd w0 R E G c d next bare tk Z u k w) :
  Calls Tryz.prog 22 #[.pointer (some ⟨R,0,none⟩)] w fun e w' => ∃ v,e = .returned v ∧ KeptE w.heap.size w' v (entsA u Z.N) ∧ Below w.heap.size w w':=by
 obtain ⟨i0,hi0,hq0,hq1,hq2⟩:=info_parts infoEnt
 have hN:=h.N
 have c0:=h.dd.c0
 have e0:=h.em.c0
 have hn6:∀ i,i < Z.N → okN (u i).n:=fun i hi => (h.wn.uok i hi).n
 have cT:=fun i (hi:i < Z.N) W (hb:Below w.heap.size w W) => rtall_any (Z.F i) (u i) (hn6 i hi) (k i) W ((h.read hb).wn.wa i hi)
 have cE:=fun W (hb:Below w.heap.size w W) => (h.read hb).em.c1
 have cG:=fun j (h1:1 ≤ j) (hj:j < Z.N) W (hb:Below w.heap.size w W) => (h.read hb).em.tg j h1 hj
 have cC:=fun W (hb:Below w.heap.size w W) => (h.read hb).dd.c0
 obtain ⟨nb,hnb⟩:∃ nb,Z.N = nb + 1:=⟨Z.N - 1,by omega⟩
 have hl0:=table.ents_le (u 0) (u 0).n
 have hl6:=okN_le (hn6 0 (by omega))
 have hla:∀ j,j ≤ Z.N → (entsA u j).length ≤ 2000:=fun j hj => by
  have:=entsA_le (u:=u) (N:=Z.N) (fun i hi => okN_le (hn6 i hi)) j hj
  omega
 have HLA:=Lib.hid hla
 have HT:=Lib.hid cT
 have HE:=Lib.hid cE
 have HG:=Lib.hid cG
 have HC:=Lib.hid cC
 have HN:=Lib.hid hnb
 have HO6:=Lib.hid hn6
 have hnb2:nb ≤ 2:=by omega
 have cT0:=cT 0 (by omega) w (Below.refl _ _)
 clear h cT cE cG cC hn6 hla hN
 rw [hnb]
 clear hnb
 go_enter Tryz.func22,Tryz.ntmps22
 go_wp2_with (fail)
 refine cT0.mono ?_
 rintro e w1 ⟨v1,rfl,hK1,hb1⟩
 have x0:=HC.out _ hb1
 have x1:=HE.out _ hb1
 rw [HN.out,Nat.add_sub_cancel] at x1
 have HI:=Lib.hid (And.intro (show KeptE w.heap.size w1 v1 (entsA u 1) from by rw [entsA_one]; exact hK1) hb1)
 clear hK1 hb1 cT0 c0 e0
 go_wp2_with (fail)
 go_loopw [22,3] (fun j v wr => ∃ c:Nat,c ≤ nb ∧ j = .int .i64 c ∧ Hid (KeptE w.heap.size wr v (entsA u (c + 1)) ∧ Below w.heap.size w wr)) (fun j _ _ => nb - (intOf j).toNat)
 case atStart => exact ⟨0,by omega,rfl,HI⟩
 case round =>
  obtain ⟨c,hc,rfl,HR⟩:=hrel
  clear HI x0 x1
  rcases Nat.lt_or_ge c nb with hcn | hcn
  ·have hci:(c:Int) < (nb:Int):=by omega
   have hN1:c + 1 < Z.N:=by have:=HN.out; omega
   have a1:=HG.out (c + 1) (by omega) hN1 _ HR.out.2
   rw [Nat.add_sub_cancel] at a1
   have hadd:(⟨G,0,none⟩:Addr).add c = ⟨G,c,none⟩:=by rw [add_at,Nat.zero_add]
   have cE:=HT.out (c + 1) hN1 wr HR.out.2
   have hes:=entsA_succ u (c + 1)
   have h8:=table.ents_le (u (c + 1)) (u (c + 1)).n
   have h64:=okN_le (HO6.out (c + 1) hN1)
   have h9:=HLA.out (c + 1) (by omega)
   have hr:=HR.out.1
   have hz:=HR.out.2.size
   unfold KeptE at hr
   have HO:=Lib.hid hr
   have HES:=Lib.hid hes
   clear hr hes
   obtain ⟨m,hm⟩:∃ m,(entsA u (c + 1)).length = m:=⟨_,rfl⟩
   obtain ⟨n8,hn8⟩:∃ n8,(ents (u (c + 1)) (u (c + 1)).n).length = n8:=⟨_,rfl⟩
   rw [hn8] at h8
   rw [hm] at h9 HO
   have HM:=Lib.hid hm
   have HN8:=Lib.hid hn8
   have hlen:(rowsS (ents (u (c + 1)) (u (c + 1)).n)).length = n8 * 3:=by rw [rowsS_length,hn8]
   have HL:=Lib.hid hlen
   clear hm hn8 hlen
   generalize (Z.F (c + 1)).R = Rc at *
   go_wp2_with (first
    | (go_at_call 66; (with_reducible refine cE.mono ?_); rintro e w2 ⟨v2,rfl,hK,hb2⟩; have HK:=Lib.hid (app.HasRow.own hK); have HO2:=Lib.hid (row_below HO.out hb2); have hz2:=hb2.size; rw [HN8.out] at HK; clear hK)
    | (at_builtin; refine app.wpList_append_val _ rfl _ _ 66 rfl w.heap.size 43 i0 (.agg #[.int .u64 0,.int .u64 0,.int .u64 0]) 3 24 Tryz.underlying66 hi0 hq0 hq1 hq2 rfl (by decide) _ _ _ rfl HO2.out _ n8 (rowsS (ents (u (c + 1)) (u (c + 1)).n)) rfl HK.out HL.out (rowsS_one _) (by simp only [maxLen]; omega) (by omega) (by omega) ?_; intro v' w1 hown' hgrow; have HO3:=Lib.hid hown'; have HGr:=Lib.hid hgrow; clear hown' hgrow))
   go_roundw
   case rel =>
    have hb3:=under.below_step HR.out.2 hb2
    refine ⟨c + 1,by omega,by simp,Lib.hid ⟨?_,hb3.grown HGr.out hb3.size fun j e => (HO.out.lt j e).1⟩⟩
    rw [HES.out]
    exact KeptE.append (by rw [HM.out,HN8.out]; exact HO3.out)
   case measure => simp [intOf]; omega
  ·obtain rfl:c = nb:=by omega
   go_wp2
   go_ret
   exact ⟨_,rfl,HR.out.1,HR.out.2⟩
end
end Go.Proofs.YtapndkabgjeofaaGreatDoor.dual

/-! ### dual: the document's dual: Step, while the old table is moved. -/
namespace Go.Proofs.YtapndkabgjeofaaGreatDoor.dual
open Go.ChangeShapes Go.WideShapes Go.ChangeAt Go.RowKit Go.Shelf swar under trap meter group probe lens tail call table evac
attribute [local go_sem] Oper.semAt_some stage.pureUpon move.stepUpon
set_option linter.unusedSimpArgs false
set_option linter.unusedVariables false

theorem sumK_kvs {N d:Nat} (hN:N = 2 ∨ N = 3):∀ (l:List Sl) (u:Nat → Tb) (k:Nat → Nat),sumK N (evac.kvs N d u k l) = sumK N k + lkc N d u l
 | [],_,_ => rfl
 | e :: l,u,k => by
  show sumK N (evac.kvs N d (mv1 N d u e) (kv1 N d u k e) l) = sumK N k + (looks (u (tgt N d e.hash)) e.key e.hash + lkc N d (mv1 N d u e) l)
  rw [sumK_kvs hN l]
  unfold kv1
  rw [sumK_up hN _ (tgt_lt hN d e.hash)]; omega
section
variable {a:String → Addr} {w0:World} {R E G c d next bare:Nat} {tk:Bool} {Y:Lay} {t u u':Nat → Tb} {k k' k0:Nat → Nat} {w W W':World}
/-- the real tables and the document's -/
theorem Rd.many (h:Rd w0 R E G c d next bare tk Y u k w) (hr:Real a w0 Y t w) (hs:∀ b ∈ Y.tall,b ∉ Y.rall):Many a w0 Y t u k w:=by
 have ht:∀ i,i < Y.N → ∀ b ∈ [Y.T i,Y.B i],b ∈ Y.tall:=fun i hi b hb => Lay.tin hi hb
 have cs:∀ i,∀ b ∈ Y.bs i,b ∈ [Y.T i,Y.B i] ∨ b ∈ Y.rb i:=fun i b hb => by
  rcases List.mem_cons.1 hb with rfl | hb
  ·exact .inl (by simp)
  ·rcases List.mem_cons.1 hb with rfl | hb
   ·exact .inl (by simp)
   ·exact .inr hb
 refine ⟨hr.at',hr.ok,hr.tn,h.wn.wa,h.wn.uok,h.wn.un,fun i hi => ⟨fun e => hs _ (ht i hi (Y.T i) (by simp)) (Lay.rin hi e),fun e => hs _ (ht i hi (Y.B i) (by simp)) (Lay.rin hi e)⟩,fun i j hi hj hne b hb hb' => ?_,fun i hi b hb => ?_,hr.bel,hr.base⟩
 ·rcases cs i b hb with h1 | h1
  ·rcases cs j b hb' with h2 | h2
   ·exact hr.sep i j hi hj hne b h1 h2
   ·exact hs b (ht i hi b h1) (Lay.rin hj h2)
  ·rcases cs j b hb' with h2 | h2
   ·exact hs b (ht j hj b h2) (Lay.rin hi h1)
   ·exact h.wn.sep i j hi hj hne b h1 h2
 ·rcases cs i b hb with h1 | h1
  ·exact hr.new b (ht i hi b h1)
  ·exact h.wn.new i hi b h1
theorem out_of {x:Nat} (h1:x ∉ Y.tall) (h2:x ∉ Y.rall):Out Y x:=fun i hi e => by
 rcases List.mem_cons.1 e with rfl | e
 ·exact h1 (Lay.tin hi (by simp))
 ·rcases List.mem_cons.1 e with rfl | e
  ·exact h1 (Lay.tin hi (by simp))
  ·exact h2 (Lay.rin hi e)
theorem Many.wn (h:Many a w0 Y t u k w):Wn w0 Y u k w:=⟨h.wa,h.uok,h.un,fun i j hi hj hne b hb hb' => h.sep i j hi hj hne b (Lay.rbs hb) (Lay.rbs hb'),fun i hi b hb => h.new i hi b (Lay.rbs hb),h.bel⟩
set_option maxRecDepth 20000 in
theorem Rd.step_move (h:Rd w0 R E G c d next 0 tk Y u k w) (hr:Real a w0 Y t w) (hs:∀ b ∈ Y.tall,b ∉ Y.rall) (hE:E ∉ Y.tall) (hG:G ∉ Y.tall) (hE0:w0.heap.size ≤ E) (hn:next < Y.n 0) (hks:sumK Y.N k + 600 ≤ 1000000) :
  Calls Tryz.prog 32 #[.pointer (some ⟨R,0,none⟩)] w fun e w' =>
   (goods Y.N d u (lst u next) = true ∧ e = .returned (.tuple #[.bool true,.bool false]) ∧ (∃ k',sumK Y.N k' = sumK Y.N k + 1 + lkc Y.N d u (lst u next) ∧ Rd w0 R E G c d (next + 1) 0 tk Y (tak (mvs Y.N d u (lst u next)) next) k' w') ∧ Past (E :: Y.rall) w w') ∨
   (goods Y.N d u (lst u next) = false ∧ e = .returned (.tuple #[.bool true,.bool true]) ∧ Past (E :: Y.rall) w w'):=by
 have cS:=rstep_on E G c a w0 Y t u k h.N d next 1000000 h.ld hn (by decide) (fun i hi => by have:=sumK_ge h.N k hi; omega) w h.em (h.many hr hs) (out_of hE h.oE) (out_of hG h.oG) hE0
 have c0:=h.dd.c0
 have c1:=h.dd.c1
 have HH:=Lib.hid h
 have HS:=Lib.hid cS
 clear h hr cS
 go_enter Tryz.func32,Tryz.ntmps32
 go_wp2_with (fail)
 refine HS.out.mono ?_
 rintro e w1 (⟨hg,rfl,hm,hE1,hp⟩ | ⟨hg,rfl,hp⟩)
 ·have h:=HH.out
  have HF:=Lib.hid (show (∃ k',sumK Y.N k' = sumK Y.N k + 1 + lkc Y.N d u (lst u next) ∧ Rd w0 R E G c d (next + 1) 0 tk Y (tak (mvs Y.N d u (lst u next)) next) k' w1) ∧ Past (E :: Y.rall) w w1 from by
   refine ⟨⟨evac.kvs Y.N d (tak u next) (ktk k) (lst u next), ?_,h.dd.past hp ?_,hE1, ?_,h.oR,h.oE,h.oG,h.N,h.ld,h.nRE,h.nRG⟩,hp⟩
   ·rw [sumK_kvs h.N,lkc_tak]
    unfold ktk
    rw [sumK_up h.N _ (by have:=h.N; omega)]
   ·exact fun e => (List.mem_cons.1 e).elim h.nRE h.oR
   ·have:=Many.wn hm
    rwa [mvs_tak] at this)
  rw [goods_tak] at hg
  have HG:=Lib.hid hg
  clear h hm hE1 hp hg
  go_wp2
  go_ret2
  exact .inl ⟨HG.out,rfl,HF.out⟩
 ·rw [goods_tak] at hg
  have HG:=Lib.hid hg
  have HP:=Lib.hid hp
  clear hg hp
  go_wp2
  go_ret2
  exact .inr ⟨HG.out,rfl,HP.out⟩
set_option maxRecDepth 20000 in
theorem Rd.step_stop (h:Rd w0 R E G c d next 0 tk Y u k w) (hr:Real a w0 Y t w) (hs:∀ b ∈ Y.tall,b ∉ Y.rall) (hn:next = Y.n 0) :
  Calls Tryz.prog 32 #[.pointer (some ⟨R,0,none⟩)] w fun e w' => e = .returned (.tuple #[.bool false,.bool false]) ∧ Below w.heap.size w w':=by
 have hEm:=h.em
 rw [hn] at hEm
 have cS:=rstep_off E G c a w0 Y t u k (by have:=h.N; omega) d w hEm (h.many hr hs)
 have c0:=h.dd.c0
 have c1:=h.dd.c1
 have HS:=Lib.hid cS
 clear h hr cS hEm
 go_enter Tryz.func32,Tryz.ntmps32
 go_wp2_with (fail)
 refine HS.out.mono ?_
 rintro e w1 ⟨rfl,hb⟩
 go_wp2
 go_ret2
 exact ⟨rfl,hb⟩
end
end Go.Proofs.YtapndkabgjeofaaGreatDoor.dual
