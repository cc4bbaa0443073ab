/- DualLB: several texts in one: plain facts and laws for the walks. No program is named. -/
import Derived.Test.YtapndkabgjeofaaGreatDoorTrap
import Derived.Test.YtapndkabgjeofaaGreatDoorDualLA
import Derived.LoopTactic
import Derived.Test.YtapndkabgjeofaaGreatDoorMeterSums
import Derived.Test.YtapndkabgjeofaaGreatDoorDualFunA

/-! ### trap: Catch, where what is made within it is told, too. -/
namespace Go.Proofs.YtapndkabgjeofaaGreatDoor.trap
open Go.RowKit errs under
set_option linter.unusedSimpArgs false
set_option linter.unusedVariables false
set_option maxRecDepth 100000 in
set_option maxHeartbeats 1600000 in
theorem catch_all (a:String → Addr) (n:Nat) (g:Nat) (cap:Array Value) (hc:∀ w,(callFunc g cap).run Tryz.prog w = .ok (.enter g cap) w) (d:List Nat) (T:World → Prop) (w:World)
  (hd:∀ k ∈ d,k < w.heap.size) (hE:∀ wx,Past d w wx → ErrsOk names a wx) (hT:∀ w1 w2,T w1 → Past [w.heap.size,w.heap.size + 1] w1 w2 → T w2)
  (hg:Calls Tryz.prog g cap ((w.alloc (.cells #[.nilIface] 50)).alloc (.cells #[.bool false] 4)) fun e w' => Ends a n e ∧ Past d ((w.alloc (.cells #[.nilIface] 50)).alloc (.cells #[.bool false] 4)) w' ∧ T w') :
  Calls Tryz.prog 29 #[.func (.func g) #[] cap] w fun e w' => e = .returned (errAt a n) ∧ Past d w w' ∧ T w':=by
 have hmf:∀ (fn:Fn) (first cap:Array Value) (w:World),(Instr.makeFunc fn first cap).run Tryz.prog w = .ok (.func fn first cap) w:=fun _ _ _ _ => rfl
 have hn:=hfun
 have hp0:Past d w ((w.alloc (.cells #[.nilIface] 50)).alloc (.cells #[.bool false] 4)):=((Past.refl d w).alloc _).alloc _
 go_enter_defers Tryz.func29,Tryz.ntmps29
 go_wp2
 refine hg.mono ?_
 rintro e w1 ⟨he,hp1,ht1⟩
 have hpw:=hp0.trans hp1
 have hE1:=hE w1 hpw
 have ne:w.heap.size ∉ d:=fun h => Nat.lt_irrefl _ (hd _ h)
 have nb:w.heap.size + 1 ∉ d:=fun h => by have:=hd _ h; omega
 have ce:=hp1.cell (b:=w.heap.size) (i:=0) (v:=.nilIface) (by simp) ne
 have cb:=hp1.cell (b:=w.heap.size + 1) (i:=0) (v:=.bool false) (by simp) nb
 have fe:w1.frozen? ⟨w.heap.size,0,none⟩ = false:=(hp1.frozen (by simp; omega) ne).trans (by simp [go_sem])
 have fb:w1.frozen? ⟨w.heap.size + 1,0,none⟩ = false:=(hp1.frozen (by simp) nb).trans (by simp [go_sem])
 have hz:w.heap.size + 1 + 1 ≤ w1.heap.size:=by simpa using hp1.size
 have pe:∀ (W:World) (u:Value),Past [w.heap.size,w.heap.size + 1] w1 W → Past [w.heap.size,w.heap.size + 1] w1 (W.setCell ⟨w.heap.size,0,none⟩ u):=fun W u h => h.store (p:=⟨w.heap.size,0,none⟩) (.inl (by simp)) u
 have pb:∀ (W:World) (u:Value),Past [w.heap.size,w.heap.size + 1] w1 W → Past [w.heap.size,w.heap.size + 1] w1 (W.setCell ⟨w.heap.size + 1,0,none⟩ u):=fun W u h => h.store (p:=⟨w.heap.size + 1,0,none⟩) (.inl (by simp)) u
 rcases he with ⟨rfl,rfl⟩ | ⟨k,hk,rfl,rfl⟩ | ⟨rfl,U,v,hU,rfl⟩
 ·skip
  go_wp2
  refine leaves_cons (f:=70) (args:=#[.pointer (some ⟨w.heap.size + 1,0,none⟩),.pointer (some ⟨w.heap.size,0,none⟩)]) (by simp) (by simp [go_sem]) ?_
  refine (caught_idle _ _ _ ?_).mono ?_
  ·simp [go_sem,cb]
  rintro e u' w'' ⟨rfl,rfl,rfl⟩
  simp [Leaves,settle,results,Tryz.results29,go_sem,ce,cb]
  exact ⟨rfl,(hpw.store (p:=⟨w.heap.size + 1,0,none⟩) (.inr (by simp)) _).store (p:=⟨w.heap.size,0,none⟩) (.inr (by simp)) _,hT _ _ ht1 (pe _ _ (pb _ _ (Past.refl _ _)))⟩
 ·skip
  go_wp2
  refine leaves_cons (f:=70) (args:=#[.pointer (some ⟨w.heap.size + 1,0,none⟩),.pointer (some ⟨w.heap.size,0,none⟩)]) (by simp) (by simp [go_sem]) ?_
  refine (caught_raised _ _ _ _ cb _ ce fe).mono ?_
  rintro e u' w'' ⟨rfl,rfl,o,rfl⟩
  have cr:((w1.setCell ⟨w.heap.size,0,none⟩ (errV (a (nm k)))).alloc o).cell? ⟨w.heap.size,0,none⟩ = some (errV (a (nm k))):=old o (by simp [go_sem,ce])
  simp [Leaves,settle,results,Tryz.results29,go_sem,cr]
  exact ⟨rfl,(hpw.store (p:=⟨w.heap.size,0,none⟩) (.inr (by simp)) _).alloc _,hT _ _ ht1 ((pe _ _ (Past.refl _ _)).alloc _)⟩
 ·skip
  go_wp2
  refine leaves_cons (f:=70) (args:=#[.pointer (some ⟨w.heap.size + 1,0,none⟩),.pointer (some ⟨w.heap.size,0,none⟩)]) (by simp) (by simp [go_sem]) ?_
  refine (caught_other a _ _ _ hU _ _ hE1 cb _ ce fe).mono ?_
  rintro e u' w'' ⟨rfl,rfl,rfl⟩
  simp [Leaves,settle,results,Tryz.results29,go_sem,ce,cb]
  exact ⟨rfl,hpw.store (p:=⟨w.heap.size,0,none⟩) (.inr (by simp)) _,hT _ _ ht1 (pe _ _ (Past.refl _ _))⟩
end Go.Proofs.YtapndkabgjeofaaGreatDoor.trap

/-! ### dual: a step that is caught; the document's, on both sides. -/
namespace Go.Proofs.YtapndkabgjeofaaGreatDoor.dual
open Go.ChangeShapes Go.WideShapes Go.ChangeAt Go.RowKit Go.Shelf swar under trap meter group probe lens tail call table evac
attribute [local go_sem] Oper.semAt_some stage.pureUpon move.stepUpon
set_option linter.unusedSimpArgs false
set_option linter.unusedVariables false

theorem fnA (cap:Array Value) (w:World):(callFunc 30 cap).run Tryz.prog w = .ok (.enter 30 cap) w:=by kernel_rfl
section
variable {a:String → Addr} {w0:World} {Y:Lay} {D n1 d:Nat} {dp:Int} {R E G c Bm q q':Nat} {t t':Nat → Tb} {fp fp':List Nat} {nx br nx' br':Nat} {u u':Nat → Tb} {k k':Nat → Nat} {m m':Mt} {P V U p v u0:Nat} {W W':World} {X5 X8 Xi:Nat}
theorem LS.sK_le (h:LS a w0 Y D n1 d dp R E G c Bm q t fp nx br u k m W):dual.sK (rdy Y n1 q) Y.N d (q - (Y.N - 1) * n1) t ≤ 512:=by
 unfold dual.sK
 split
 ·rename_i hr
  have h6:=h.n64
  rw [hr] at h6
  have h1:=lkc_most Y.N d h.da.N (lst t (q - (Y.N - 1) * n1)) t h6
  have h2:=lst_length t (q - (Y.N - 1) * n1)
  omega
 ·omega
/-- what a caught step comes to -/
structure CQ (a:String → Addr) (w0:World) (Y:Lay) (D n1 d:Nat) (dp:Int) (R E G c Bm q:Nat) (t:Nat → Tb) (fp fp':List Nat) (nx br:Nat) (u:Nat → Tb) (k:Nat → Nat) (m:Mt) (Xi n:Nat) (b:Bool) (W:World):Prop where
 ls:LS a w0 Y D n1 d dp R E G c Bm q t fp' nx br u k m W
 is:Var Xi (.bool b) W
 fp:∀ b ∈ fp',b ∈ fp ∨ n ≤ b
set_option maxRecDepth 20000 in
set_option maxHeartbeats 1000000 in
theorem clo_any (h:LS a w0 Y D n1 d dp R E G c Bm q t fp nx br u k (Mq P V U p v u0) W) (c5:W.cell? ⟨X5,0,none⟩ = some (.pointer (some ⟨D,0,none⟩))) (c8:W.cell? ⟨X8,0,none⟩ = some (.pointer (some ⟨Bm,0,none⟩))) (ci:Var Xi (.bool false) W) (hX0:w0.heap.size ≤ Xi) (hXG:Xi ≠ G) (hX:Xi ∉ Ft Y R E Bm fp) (hP:P ≤ 1000000) (hV:V + 600 ≤ 1000000) (hU:U + 1 ≤ 1000000) (hp:p ≤ P) (hv:v ≤ V) (hu:u0 ≤ U) :
    Calls Tryz.prog 30 #[.pointer (some ⟨X5,0,none⟩),.pointer (some ⟨X8,0,none⟩),.pointer (some ⟨Xi,0,none⟩)] W fun e w' => Past (Xi :: Bm :: fp) W w' ∧
      ((q < Y.n 0 + (Y.N - 1) * n1 ∧ sG (rdy Y n1 q) Y.N d (q - (Y.N - 1) * n1) t = true ∧ e = .returned (.tuple #[]) ∧ ∃ fp', CQ a w0 Y D n1 d dp R E G c Bm (q + 1) (sT (rdy Y n1 q) Y.N d (q - (Y.N - 1) * n1) t) fp fp' nx br u k (Mq P (V + 1 + dual.sK (rdy Y n1 q) Y.N d (q - (Y.N - 1) * n1) t) (U + 1) p (v + 1 + dual.sK (rdy Y n1 q) Y.N d (q - (Y.N - 1) * n1) t) (u0 + 1)) Xi W.heap.size true w') ∨
       (q < Y.n 0 + (Y.N - 1) * n1 ∧ sG (rdy Y n1 q) Y.N d (q - (Y.N - 1) * n1) t = false ∧ e = .panicked (thrown (raisedV (a "ambler/api.ErrBroken"))) ∧ ∃ t', Real a w0 Y t' w') ∨
       (q = Y.n 0 + (Y.N - 1) * n1 ∧ e = .returned (.tuple #[]) ∧ CQ a w0 Y D n1 d dp R E G c Bm q t fp fp nx br u k (Mq P V U p v u0) Xi W.heap.size false w')):=by
  have ci0:=ci.cell
  have cf0:=ci.frozen
  have lX:=ci.lt
  have nXr:Xi ∉ Bm :: fp:=fun e => hX (ft_real _ e)
  have st:∀ (w5:World) (b:Bool),Past (Bm :: fp) W w5 → Past (Xi :: Bm :: fp) W (w5.setCell ⟨Xi,0,none⟩ (.bool b)):=fun w5 b hp => (hp.mono fun x hx => List.mem_cons_of_mem _ hx).store (.inl (by simp)) _
  by_cases hq:q < Y.n 0 + (Y.N - 1) * n1
  · have hK:=h.sK_le
    have cS:=h.da.step_on hq h.mt (Mq_ok (by omega) (by omega) (by omega) hp hv hu) (Mq_E _ _ _ _ _ _) h.hB.1 (fun e => (h.sp _ e).2.2.2.2.2 rfl)
    rw [Mq_unit (by omega) (by omega),Mq_visit (by omega) (by omega),Mq_see (by omega) _ (by omega)] at cS
    have CS:=Lib.hid cS
    have HH:=Lib.hid h
    clear cS h
    go_enter Tryz.func30,Tryz.ntmps30
    go_wp2_with (fail)
    refine CS.out.mono ?_
    rintro e w5 (⟨hg,rfl,fp',hD5,hm5,hp5,hf5⟩ | ⟨hg,rfl,hp5,hx⟩)
    · have h5:=HH.out.real hD5 hm5 hp5 hf5
      have ci5:=ci.past hp5 nXr
      have c5':=ci5.cell
      have f5':=ci5.frozen
      have hX5:=ft_stay HH.out hX lX hf5
      have HF:=Lib.hid (show Past (Xi :: Bm :: fp) W _ ∧ ∃ fp',CQ a w0 Y D n1 d dp R E G c Bm (q + 1) _ fp fp' nx br u k _ Xi W.heap.size true _ from ⟨st w5 true hp5,fp',h5.box hX0 hXG hX5 0 (.bool true),ci5.set _,hf5⟩)
      have HG:=Lib.hid hg
      clear h5 ci5 hD5 hm5 hp5 hf5 st ci ci0 cf0 hg
      go_wp2
      go_end0
      exact ⟨HF.out.1,.inl ⟨hq,HG.out,rfl,HF.out.2⟩⟩
    · exact ⟨rfl,hp5.mono fun x hx => List.mem_cons_of_mem _ hx,.inr (.inl ⟨hq,hg,rfl,hx⟩)⟩
  · have hq':q = Y.n 0 + (Y.N - 1) * n1:=by have:=h.da.le; omega
    have cO:=h.da.step_off hq' (some ⟨Bm,0,none⟩)
    have HH:=Lib.hid h
    clear h
    go_enter Tryz.func30,Tryz.ntmps30
    go_wp2_with (fail)
    refine cO.mono ?_
    rintro e w5 ⟨rfl,hb5⟩
    have h5:=HH.out.read hb5
    have ci5:=ci.below hb5
    have c5':=ci5.cell
    have f5':=ci5.frozen
    have HF:=Lib.hid (show Past (Xi :: Bm :: fp) W _ ∧ CQ a w0 Y D n1 d dp R E G c Bm q t fp fp nx br u k (Mq P V U p v u0) Xi W.heap.size false _ from ⟨st w5 false (Past.of hb5),h5.box hX0 hXG hX 0 (.bool false),ci5.set _,fun b hb => .inl hb⟩)
    clear h5 ci5 hb5 st ci ci0 cf0 cO
    go_wp2
    go_end0
    exact ⟨HF.out.1,.inr (.inr ⟨hq',rfl,HF.out.2⟩)⟩
theorem CQ.aside {bb:Bool} (h:CQ a w0 Y D n1 d dp R E G c Bm q t fp fp' nx br u k m Xi (W.heap.size + 2) bb W') (hl:∀ x ∈ fp,x < W.heap.size) (hLS:(∀ b ∈ Ft Y R E Bm fp,b < W.heap.size) ∧ G < W.heap.size) (h0:w0.heap.size ≤ W.heap.size) (hX:Xi < W.heap.size) {W2:World} (hp:Past [W.heap.size,W.heap.size + 1] W' W2):CQ a w0 Y D n1 d dp R E G c Bm q t fp fp' nx br u k m Xi (W.heap.size + 2) bb W2:=by
 refine ⟨h.ls.aside hp fun b hb => ?_,h.is.past hp (by simp; omega),h.fp⟩
 have hb':b = W.heap.size ∨ b = W.heap.size + 1:=by simpa using hb
 refine ⟨by omega,by have:=hLS.2; omega,fun e => ?_⟩
 simp only [Ft,List.mem_cons,List.mem_append] at e
 have l:=hLS.1
 rcases e with e | e | e | e | e
 ·have:=l Bm (by simp); omega
 ·have:=l R (by simp); omega
 ·have:=l E (by simp); omega
 ·rcases h.fp b e with e | e
  ·have:=hl b e; omega
  ·omega
 ·have:=l b (by simp [e]); omega
theorem catch_step (hw:Base a w0) (h:LS a w0 Y D n1 d dp R E G c Bm q t fp nx br u k (Mq P V U p v u0) W) (c5:W.cell? ⟨X5,0,none⟩ = some (.pointer (some ⟨D,0,none⟩))) (c8:W.cell? ⟨X8,0,none⟩ = some (.pointer (some ⟨Bm,0,none⟩))) (ci:Var Xi (.bool false) W) (hX0:w0.heap.size ≤ Xi) (hXG:Xi ≠ G) (hX:Xi ∉ Ft Y R E Bm fp) (hP:P ≤ 1000000) (hV:V + 600 ≤ 1000000) (hU:U + 1 ≤ 1000000) (hp:p ≤ P) (hv:v ≤ V) (hu:u0 ≤ U) :
    Calls Tryz.prog 29 #[.func (.func 30) #[] #[.pointer (some ⟨X5,0,none⟩),.pointer (some ⟨X8,0,none⟩),.pointer (some ⟨Xi,0,none⟩)]] W fun e w' => Past (Xi :: Bm :: fp) W w' ∧
      ((q < Y.n 0 + (Y.N - 1) * n1 ∧ sG (rdy Y n1 q) Y.N d (q - (Y.N - 1) * n1) t = true ∧ e = .returned (errAt a 0) ∧ ∃ fp', CQ a w0 Y D n1 d dp R E G c Bm (q + 1) (sT (rdy Y n1 q) Y.N d (q - (Y.N - 1) * n1) t) fp fp' nx br u k (Mq P (V + 1 + dual.sK (rdy Y n1 q) Y.N d (q - (Y.N - 1) * n1) t) (U + 1) p (v + 1 + dual.sK (rdy Y n1 q) Y.N d (q - (Y.N - 1) * n1) t) (u0 + 1)) Xi (W.heap.size + 2) true w') ∨
       (q < Y.n 0 + (Y.N - 1) * n1 ∧ sG (rdy Y n1 q) Y.N d (q - (Y.N - 1) * n1) t = false ∧ e = .returned (errAt a 10) ∧ ∃ t',Real a w0 Y t' w') ∨
       (q = Y.n 0 + (Y.N - 1) * n1 ∧ e = .returned (errAt a 0) ∧ CQ a w0 Y D n1 d dp R E G c Bm q t fp fp nx br u k (Mq P V U p v u0) Xi (W.heap.size + 2) false w')):=by
  have hb2:=two_new W (.cells #[.nilIface] 50) (.cells #[.bool false] 4)
  have hC:=clo_any (X5:=X5) (X8:=X8) (h.read hb2) (keepc hb2 c5) (keepc hb2 c8) (ci.below hb2) hX0 hXG hX hP hV hU hp hv hu
  rw [show ((W.alloc (.cells #[.nilIface] 50)).alloc (.cells #[.bool false] 4)).heap.size = W.heap.size + 2 from by rw [World.size_alloc,World.size_alloc]] at hC
  have hl:=h.lts
  have lX:=ci.lt
  have z0:=h.bel.size
  have hlf:∀ x ∈ fp,x < W.heap.size:=fun x hx => hl.1 x (ft_real _ (List.mem_cons_of_mem _ hx))
  have hld:∀ k ∈ Xi :: Bm :: fp,k < W.heap.size:=fun k hk => by
    rcases List.mem_cons.1 hk with rfl | hk
    · exact lX
    · exact hl.1 k (ft_real k hk)
  have hnd:∀ k ∈ Xi :: Bm :: fp,w0.heap.size ≤ k:=fun k hk => by
    rcases List.mem_cons.1 hk with rfl | hk
    · exact hX0
    · exact h.nft k (ft_real k hk)
  have hbw:∀ wx,Past (Xi :: Bm :: fp) W wx → Below w0.heap.size w0 wx:=fun wx hp => h.bel.trans (hp.below h.bel.size hnd)
  have hE:∀ wx,Past (Xi :: Bm :: fp) W wx → errs.ErrsOk errs.names a wx:=fun wx hp => (hw.below (hbw wx hp)).errs
  have htin:=h.da.tin
  by_cases hq:q < Y.n 0 + (Y.N - 1) * n1
  · by_cases hg:sG (rdy Y n1 q) Y.N d (q - (Y.N - 1) * n1) t = true
    · have C:=catch_all a 0 30 #[.pointer (some ⟨X5,0,none⟩),.pointer (some ⟨X8,0,none⟩),.pointer (some ⟨Xi,0,none⟩)] (fnA _) (Xi :: Bm :: fp) (fun W1 => ∃ fp',CQ a w0 Y D n1 d dp R E G c Bm (q + 1) (sT (rdy Y n1 q) Y.N d (q - (Y.N - 1) * n1) t) fp fp' nx br u k (Mq P (V + 1 + dual.sK (rdy Y n1 q) Y.N d (q - (Y.N - 1) * n1) t) (U + 1) p (v + 1 + dual.sK (rdy Y n1 q) Y.N d (q - (Y.N - 1) * n1) t) (u0 + 1)) Xi (W.heap.size + 2) true W1) W hld hE
        (fun w1 w2 ⟨fp',h1⟩ he => ⟨fp',h1.aside hlf hl z0 lX he⟩)
        (hC.mono fun e w' ⟨hp,h⟩ => by
          rcases h with ⟨_,_,rfl,h⟩ | ⟨_,hf,_⟩ | ⟨hf,_⟩
          · exact ⟨Ends.back,hp,h⟩
          · rw [hg] at hf; cases hf
          · omega)
      exact C.mono fun e w' ⟨he,hp,hx⟩ => ⟨hp,.inl ⟨hq,hg,he,hx⟩⟩
    · have hg':sG (rdy Y n1 q) Y.N d (q - (Y.N - 1) * n1) t = false:=by simpa using hg
      have C:=catch_all a 10 30 #[.pointer (some ⟨X5,0,none⟩),.pointer (some ⟨X8,0,none⟩),.pointer (some ⟨Xi,0,none⟩)] (fnA _) (Xi :: Bm :: fp) (fun W1 => (∃ t',Real a w0 Y t' W1) ∧ ∀ b ∈ Y.tall,b < W.heap.size) W hld hE
        (fun w1 w2 ⟨⟨t', h1⟩, h2⟩ he => ⟨⟨t', h1.past he fun b hb => ⟨by have hb' : b = W.heap.size ∨ b = W.heap.size + 1 := by simpa using hb
                                                                         omega, fun e => by have hb' : b = W.heap.size ∨ b = W.heap.size + 1 := by simpa using hb
                                                                                            have:=h2 b e
                                                                                            omega⟩⟩,h2⟩)
        (hC.mono fun e w' ⟨hp,h⟩ => by
          rcases h with ⟨_,hf,_⟩ | ⟨_,_,rfl,h⟩ | ⟨hf,_⟩
          · rw [hg'] at hf; cases hf
          · exact ⟨Ends.raised 9 (by decide),hp,h,fun b hb => hlf b (htin b hb)⟩
          · omega)
      exact C.mono fun e w' ⟨he,hp,hx,_⟩ => ⟨hp,.inr (.inl ⟨hq,hg',he,hx⟩)⟩
  · have hq':q = Y.n 0 + (Y.N - 1) * n1:=by have:=h.da.le; omega
    have C:=catch_all a 0 30 #[.pointer (some ⟨X5,0,none⟩),.pointer (some ⟨X8,0,none⟩),.pointer (some ⟨Xi,0,none⟩)] (fnA _) (Xi :: Bm :: fp) (fun W1 => CQ a w0 Y D n1 d dp R E G c Bm q t fp fp nx br u k (Mq P V U p v u0) Xi (W.heap.size + 2) false W1) W hld hE
      (fun w1 w2 h1 he => h1.aside hlf hl z0 lX he)
      (hC.mono fun e w' ⟨hp,h⟩ => by
        rcases h with ⟨hf,_⟩ | ⟨hf,_⟩ | ⟨_,rfl,h⟩
        · omega
        · omega
        · exact ⟨Ends.back,hp,h⟩)
    exact C.mono fun e w' ⟨he,hp,hx⟩ => ⟨hp,.inr (.inr ⟨hq',he,hx⟩)⟩
end
end Go.Proofs.YtapndkabgjeofaaGreatDoor.dual

/-! ### dual: what the document's dual answers, beside the real one. -/
namespace Go.Proofs.YtapndkabgjeofaaGreatDoor.dual
open Go.ChangeShapes Go.WideShapes Go.ChangeAt Go.RowKit Go.Shelf swar under trap meter group probe lens tail call table evac
attribute [local go_sem] Oper.semAt_some stage.pureUpon move.stepUpon
set_option linter.unusedSimpArgs false
set_option linter.unusedVariables false
section
variable {a:String → Addr} {w0:World} {Y:Lay} {D n1 d:Nat} {dp:Int} {R E G c Bm q q':Nat} {t t':Nat → Tb} {fp fp':List Nat} {nx br nx' br':Nat} {u u':Nat → Tb} {k k':Nat → Nat} {m m':Mt} {P V U p v u0:Nat} {W W':World} {X5 X8 Xi:Nat}
theorem LS.rput (h:LS a w0 Y D n1 d dp R E G c Bm q t fp nx br u k m W) (hb:decide (br = 0) = rdy Y n1 q) (key val hs:Nat) (hk:key < 18446744073709551616) (hv:val < 18446744073709551616) (hh:hs < 18446744073709551616) (more:Bool) (hks:sumK Y.N k + 200 ≤ 1000000) :
  Calls Tryz.prog 14 #[.pointer (some ⟨R,0,none⟩),group.entV key val hs,.bool more] W fun e w' => e = .returned (.tuple #[.bool (dB u key hs (js (rdy Y n1 q) Y.N d hs) more),.int .i64 (dE u key hs (js (rdy Y n1 q) Y.N d hs) more:Nat)]) ∧ (∃ k',sumK Y.N k' = sumK Y.N k + dual.fndK u key hs (js (rdy Y n1 q) Y.N d hs) ∧ LS a w0 Y D n1 d dp R E G c Bm q t fp nx br (dT u key hs val (js (rdy Y n1 q) Y.N d hs) more) k' m w') ∧ Past (R :: E :: Y.rall) W w':=by
 rw [← hb]
 exact (h.rd.put key val hs hk hv hh (by omega) more).mono fun e w' ⟨he,⟨k',hk',hr⟩,hp⟩ => have hp':=hp.mono fun b hb => List.mem_cons_of_mem _ (List.mem_cons_of_mem _ hb); ⟨he,⟨k',hk',h.doc hr hp'⟩,hp'⟩
theorem LS.rdelete (h:LS a w0 Y D n1 d dp R E G c Bm q t fp nx br u k m W) (hb:decide (br = 0) = rdy Y n1 q) (key hs:Nat) (hk:key < 18446744073709551616) (hh:hs < 18446744073709551616) (hks:sumK Y.N k + 200 ≤ 1000000) :
  Calls Tryz.prog 17 #[.pointer (some ⟨R,0,none⟩),.int .u64 (key:Nat),.int .u64 (hs:Nat)] W fun e w' => e = .returned (.tuple #[group.entV (fndE u key hs (js (rdy Y n1 q) Y.N d hs)).key (fndE u key hs (js (rdy Y n1 q) Y.N d hs)).val (fndE u key hs (js (rdy Y n1 q) Y.N d hs)).hash,.bool (fnd u key hs (js (rdy Y n1 q) Y.N d hs)).isSome]) ∧ (∃ k',sumK Y.N k' = sumK Y.N k + dual.fndK u key hs (js (rdy Y n1 q) Y.N d hs) ∧ LS a w0 Y D n1 d dp R E G c Bm q t fp nx br (eT u key hs (js (rdy Y n1 q) Y.N d hs)) k' m w') ∧ Past (R :: E :: Y.rall) W w':=by
 rw [← hb]
 exact (h.rd.delete key hs hk hh (by omega)).mono fun e w' ⟨he,⟨k',hk',hr⟩,hp⟩ => have hp':=hp.mono fun b hb => List.mem_cons_of_mem _ (List.mem_cons_of_mem _ hb); ⟨he,⟨k',hk',h.doc hr hp'⟩,hp'⟩
theorem LS.rfind (h:LS a w0 Y D n1 d dp R E G c Bm q t fp nx br u k m W) (hb:decide (br = 0) = rdy Y n1 q) (key hs:Nat) (hh:hs < 18446744073709551616) (hks:sumK Y.N k + 200 ≤ 1000000) :
  Calls Tryz.prog 19 #[.pointer (some ⟨R,0,none⟩),.int .u64 (key:Nat),.int .u64 (hs:Nat)] W fun e w' => e = .returned (.tuple #[group.entV (fndE u key hs (js (rdy Y n1 q) Y.N d hs)).key (fndE u key hs (js (rdy Y n1 q) Y.N d hs)).val (fndE u key hs (js (rdy Y n1 q) Y.N d hs)).hash,.int .i64 (pI u key hs (js (rdy Y n1 q) Y.N d hs))]) ∧ (∃ k',sumK Y.N k' = sumK Y.N k + dual.fndK u key hs (js (rdy Y n1 q) Y.N d hs) ∧ LS a w0 Y D n1 d dp R E G c Bm q t fp nx br u k' m w') ∧ Past (R :: E :: Y.rall) W w':=by
 rw [← hb]
 exact (h.rd.find key hs hh (fun i hi => by have:=sumK_ge h.rd.N k hi; omega)).mono fun e w' ⟨he,⟨k',hk',hr⟩,hp⟩ => have hp':=hp.mono fun b hb => List.mem_cons_of_mem _ (List.mem_cons_of_mem _ hb); ⟨he,⟨k',hk',h.doc hr hp'⟩,hp'⟩
theorem pI_some (u:Nat → Tb) (key hs:Nat) (J:List Nat):decide (0 ≤ pI u key hs J) = (fnd u key hs J).isSome:=by
 unfold pI
 cases h:(fnd u key hs J).isSome
 ·simp
 ·simp
/-- a step of the document's, whatever it is: q1 is what the real one has done -/
theorem LS.rstep {q1:Nat} {tr:Nat → Tb} (h:LS a w0 Y D n1 d dp R E G c Bm q1 tr fp nx br u k m W) (hnx:nx = q - (Y.N - 1) * n1) (hbr:br = (Y.N - 1) * n1 - q) (hre:rdy Y n1 q = true → ∃ t',Real a w0 Y t' W) (hq:q < Y.n 0 + (Y.N - 1) * n1) (hg:sG (rdy Y n1 q) Y.N d (q - (Y.N - 1) * n1) u = true) (hks:sumK Y.N k + 600 ≤ 1000000) :
  Calls Tryz.prog 32 #[.pointer (some ⟨R,0,none⟩)] W fun e w' => e = .returned (.tuple #[.bool true,.bool false]) ∧ (∃ k',sumK Y.N k' = sumK Y.N k + (if rdy Y n1 q = true then 1 + dual.sK (rdy Y n1 q) Y.N d (q - (Y.N - 1) * n1) u else 0) ∧ LS a w0 Y D n1 d dp R E G c Bm q1 tr fp (q + 1 - (Y.N - 1) * n1) ((Y.N - 1) * n1 - (q + 1)) (sT (rdy Y n1 q) Y.N d (q - (Y.N - 1) * n1) u) k' m w') ∧ Past (R :: E :: Y.rall) W w':=by
 have hs:=h.da.small
 have hst:∀ b ∈ Y.tall,b ∉ Y.rall:=fun b hb => (h.sp b (h.da.tin b hb)).2.2.2.2.1
 have oE:E ∉ Y.tall:=fun e => (h.sp E (h.da.tin E e)).2.2.1 rfl
 have oG:G ∉ Y.tall:=fun e => (h.sp G (h.da.tin G e)).2.2.2.1 rfl
 cases hr:rdy Y n1 q with
 | false =>
  have hlt:q < (Y.N - 1) * n1:=by
   have:=of_decide_eq_false (show decide ((Y.N - 1) * n1 ≤ q) = false from hr)
   omega
  have e0:nx = q + 1 - (Y.N - 1) * n1:=by omega
  have e1:br - 1 = (Y.N - 1) * n1 - (q + 1):=by omega
  refine (h.rd.step_bare (by omega) (by omega) h.hR.1).mono fun e w' ⟨he,hd,hp⟩ => ?_
  have hp':Past (R :: E :: Y.rall) W w':=hp.mono fun b hb => by
   obtain rfl:b = R:=by simpa using hb
   simp
  rw [e1,e0] at hd
  exact ⟨he,⟨k,rfl,h.doc hd hp'⟩,hp'⟩
 | true =>
  have hle:(Y.N - 1) * n1 ≤ q:=of_decide_eq_true hr
  have hb0:br = 0:=by omega
  subst hb0
  obtain ⟨t',ht'⟩:=hre hr
  rw [hr] at hg
  rw [sG_yes,← hnx] at hg
  refine (h.rd.step_move ht' hst oE oG h.hR.2 (by omega) hks).mono fun e w' hx => ?_
  rcases hx with ⟨_,he,⟨k',hk',hd⟩,hp⟩ | ⟨hf,_⟩
  ·have hp':Past (R :: E :: Y.rall) W w':=hp.mono fun b hb => List.mem_cons_of_mem _ hb
   rw [sT_yes,dual.sK_yes,← hnx,if_pos rfl]
   rw [show nx + 1 = q + 1 - (Y.N - 1) * n1 by omega] at hd
   refine ⟨he,⟨k',by omega, ?_⟩,hp'⟩
   rw [show (Y.N - 1) * n1 - (q + 1) = 0 by omega]
   exact h.doc hd hp'
  ·rw [hg] at hf; cases hf
theorem LS.rstop (h:LS a w0 Y D n1 d dp R E G c Bm q t fp nx br u k m W) (hnx:nx = q - (Y.N - 1) * n1) (hbr:br = (Y.N - 1) * n1 - q) (hq:q = Y.n 0 + (Y.N - 1) * n1) :
  Calls Tryz.prog 32 #[.pointer (some ⟨R,0,none⟩)] W fun e w' => e = .returned (.tuple #[.bool false,.bool false]) ∧ LS a w0 Y D n1 d dp R E G c Bm q t fp nx br u k m w' ∧ Below W.heap.size W w':=by
 have hst:∀ b ∈ Y.tall,b ∉ Y.rall:=fun b hb => (h.sp b (h.da.tin b hb)).2.2.2.2.1
 have hb0:br = 0:=by omega
 have hre:=h.da.re
 rw [rdy_yes (by omega)] at hre
 subst hb0
 exact (h.rd.step_stop hre hst (by omega)).mono fun e w' ⟨he,hb⟩ => ⟨he,h.read hb,hb⟩
/-- a step that breaks: the document's breaks, too -/
theorem rbreak {w:World} {tr:Nat → Tb} (h:Rd w0 R E G c d nx br false Y u k w) (hnx:nx = q - (Y.N - 1) * n1) (hbr:br = (Y.N - 1) * n1 - q) (hr:rdy Y n1 q = true) (hre:Real a w0 Y tr w) (hst:∀ b ∈ Y.tall,b ∉ Y.rall) (oE:E ∉ Y.tall) (oG:G ∉ Y.tall) (hE0:w0.heap.size ≤ E) (hq:q < Y.n 0 + (Y.N - 1) * n1) (hg:sG (rdy Y n1 q) Y.N d (q - (Y.N - 1) * n1) u = false) (hks:sumK Y.N k + 600 ≤ 1000000) :
  Calls Tryz.prog 32 #[.pointer (some ⟨R,0,none⟩)] w fun e w' => e = .returned (.tuple #[.bool true,.bool true]) ∧ Past (E :: Y.rall) w w':=by
 have hle:(Y.N - 1) * n1 ≤ q:=of_decide_eq_true hr
 have hb0:br = 0:=by omega
 subst hb0
 rw [hr,sG_yes,← hnx] at hg
 refine (h.step_move hre hst oE oG hE0 (by omega) hks).mono fun e w' hx => ?_
 rcases hx with ⟨hf,_⟩ | ⟨_,he,hp⟩
 ·rw [hg] at hf; cases hf
 ·exact ⟨he,hp⟩
end
end Go.Proofs.YtapndkabgjeofaaGreatDoor.dual

/-! ### dual: what lies beside the duals in a round of the law. -/
namespace Go.Proofs.YtapndkabgjeofaaGreatDoor.dual
open Go.ChangeShapes Go.WideShapes Go.ChangeAt Go.RowKit Go.Shelf swar under trap meter group probe lens tail call table evac
attribute [local go_sem] Oper.semAt_some stage.pureUpon move.stepUpon
set_option linter.unusedSimpArgs false
set_option linter.unusedVariables false

/-- the boxes: of the case, of the dual, of the meter, of all counts; of the act, of the entry, of the counts that are wanted -/
structure Cx (b0 G X2 X5 X8 X9 X11 X12 X14:Nat) (cas:Cas) (D Bm P V U:Nat) (kd ky nn:Int) (key val hs wp wv wu:Nat) (F:List Nat) (W:World):Prop where
 cb:CBox X2 cas W
 c5:W.cell? ⟨X5,0,none⟩ = some (.pointer (some ⟨D,0,none⟩))
 c8:W.cell? ⟨X8,0,none⟩ = some (.pointer (some ⟨Bm,0,none⟩))
 al:W.heap[X9]? = some (.cells #[.int .i64 (P:Nat),.int .i64 (V:Nat),.int .i64 (U:Nat)] 38 (0,0))
 ac:W.heap[X11]? = some (.cells #[.int .i64 kd,.int .i64 ky,.int .i64 nn] 40 (0,0))
 eb:EBox X12 key val hs W
 wa:W.heap[X14]? = some (.cells #[.int .i64 (wp:Nat),.int .i64 (wv:Nat),.int .i64 (wu:Nat)] 38 (0,0))
 o:∀ X ∈ [X2,X5,X8,X9,X11,X12,X14],X ∉ F
 h:∀ X ∈ [X9,X11,X12,X14],b0 ≤ X ∧ X ≠ G
 n9:X9 ∉ [X2,X5,X8,X11,X12,X14]
 n14:X14 ∉ [X2,X5,X8,X9,X11,X12]
section
variable {b0 G X2 X5 X8 X9 X11 X12 X14:Nat} {cas:Cas} {D Bm P V U:Nat} {kd ky nn:Int} {key val hs wp wv wu:Nat} {F F':List Nat} {W W':World}
theorem row_lt' {X:Nat} {o:Obj} (h:W.heap[X]? = some o):X < W.heap.size:=(Array.getElem?_eq_some_iff.1 h).1
theorem Cx.lts (h:Cx b0 G X2 X5 X8 X9 X11 X12 X14 cas D Bm P V U kd ky nn key val hs wp wv wu F W):∀ X ∈ [X2,X5,X8,X9,X11,X12,X14],X < W.heap.size:=fun X hX => by
 simp only [List.mem_cons,List.not_mem_nil,or_false] at hX
 rcases hX with rfl | rfl | rfl | rfl | rfl | rfl | rfl
 ·exact h.cb.lt
 ·exact World.block_lt_of_cell? _ _ h.c5
 ·exact World.block_lt_of_cell? _ _ h.c8
 ·exact row_lt' h.al
 ·exact row_lt' h.ac
 ·exact h.eb.lt
 ·exact row_lt' h.wa
theorem Cx.aside {l:List Nat} (h:Cx b0 G X2 X5 X8 X9 X11 X12 X14 cas D Bm P V U kd ky nn key val hs wp wv wu F W) (hp:Past l W W') (hl:∀ X ∈ [X2,X5,X8,X9,X11,X12,X14],X ∉ l):Cx b0 G X2 X5 X8 X9 X11 X12 X14 cas D Bm P V U kd ky nn key val hs wp wv wu F W':=by
 have lt:=h.lts
 refine ⟨h.cb.past hp (hl _ (by simp)),hp.cell h.c5 (hl _ (by simp)),hp.cell h.c8 (hl _ (by simp)), ?_, ?_,h.eb.past hp (hl _ (by simp)), ?_,h.o,h.h,h.n9,h.n14⟩
 ·rw [hp.block X9 (lt _ (by simp)) (hl _ (by simp))]; exact h.al
 ·rw [hp.block X11 (lt _ (by simp)) (hl _ (by simp))]; exact h.ac
 ·rw [hp.block X14 (lt _ (by simp)) (hl _ (by simp))]; exact h.wa
theorem Cx.read (h:Cx b0 G X2 X5 X8 X9 X11 X12 X14 cas D Bm P V U kd ky nn key val hs wp wv wu F W) (hb:Below W.heap.size W W'):Cx b0 G X2 X5 X8 X9 X11 X12 X14 cas D Bm P V U kd ky nn key val hs wp wv wu F W':=h.aside (l:=[]) (Past.of hb) fun _ _ e => by cases e
/-- a step of the duals -/
theorem Cx.step {l:List Nat} (h:Cx b0 G X2 X5 X8 X9 X11 X12 X14 cas D Bm P V U kd ky nn key val hs wp wv wu F W) (hp:Past l W W') (hl:∀ b ∈ l,b ∈ F):Cx b0 G X2 X5 X8 X9 X11 X12 X14 cas D Bm P V U kd ky nn key val hs wp wv wu F W':=h.aside hp fun X hX e => h.o X hX (hl X e)
theorem Cx.foot (h:Cx b0 G X2 X5 X8 X9 X11 X12 X14 cas D Bm P V U kd ky nn key val hs wp wv wu F W) (hf:∀ X,X ∉ F → X < W.heap.size → X ∉ F'):Cx b0 G X2 X5 X8 X9 X11 X12 X14 cas D Bm P V U kd ky nn key val hs wp wv wu F' W:=⟨h.cb,h.c5,h.c8,h.al,h.ac,h.eb,h.wa,fun X hX => hf X (h.o X hX) (h.lts X hX),h.h,h.n9,h.n14⟩
/-- a box that is made now -/
theorem Cx.box (h:Cx b0 G X2 X5 X8 X9 X11 X12 X14 cas D Bm P V U kd ky nn key val hs wp wv wu F W) {X:Nat} (hX:∀ Z ∈ [X2,X5,X8,X9,X11,X12,X14],Z ≠ X) (i:Nat) (v:Value):Cx b0 G X2 X5 X8 X9 X11 X12 X14 cas D Bm P V U kd ky nn key val hs wp wv wu F (W.setCell ⟨X,i,none⟩ v):=
 h.aside (l:=[X]) ((Past.refl [X] W).store (p:=⟨X,i,none⟩) (.inl (by simp)) v) fun Z hZ e => hX Z hZ (by simpa using e)
theorem Cx.e0 (h:Cx b0 G X2 X5 X8 X9 X11 X12 X14 cas D Bm P V U kd ky nn key val hs wp wv wu F W):W.cell? ⟨X12,0,none⟩ = some (.int .u64 (key:Nat)) ∧ W.cell? ⟨X12,1,none⟩ = some (.int .u64 (val:Nat)) ∧ W.cell? ⟨X12,2,none⟩ = some (.int .u64 (hs:Nat)):=⟨h.eb.c0,h.eb.c1,h.eb.c2⟩
theorem Cx.a0 (h:Cx b0 G X2 X5 X8 X9 X11 X12 X14 cas D Bm P V U kd ky nn key val hs wp wv wu F W):W.cell? ⟨X11,0,none⟩ = some (.int .i64 kd) ∧ W.cell? ⟨X11,1,none⟩ = some (.int .i64 ky) ∧ W.cell? ⟨X11,2,none⟩ = some (.int .i64 nn):=⟨by rw [cell_of_row _ _ _ _ _ _ h.ac]; rfl,by rw [cell_of_row _ _ _ _ _ _ h.ac]; rfl,by rw [cell_of_row _ _ _ _ _ _ h.ac]; rfl⟩
theorem Cx.w0 (h:Cx b0 G X2 X5 X8 X9 X11 X12 X14 cas D Bm P V U kd ky nn key val hs wp wv wu F W):W.cell? ⟨X14,0,none⟩ = some (.int .i64 (wp:Nat)) ∧ W.cell? ⟨X14,1,none⟩ = some (.int .i64 (wv:Nat)) ∧ W.cell? ⟨X14,2,none⟩ = some (.int .i64 (wu:Nat)) ∧ ∀ i,W.frozen? ⟨X14,i,none⟩ = false:=⟨by rw [cell_of_row _ _ _ _ _ _ h.wa]; rfl,by rw [cell_of_row _ _ _ _ _ _ h.wa]; rfl,by rw [cell_of_row _ _ _ _ _ _ h.wa]; rfl,fun i => frozen_of_row _ _ i _ _ h.wa⟩
theorem Cx.l0 (h:Cx b0 G X2 X5 X8 X9 X11 X12 X14 cas D Bm P V U kd ky nn key val hs wp wv wu F W):W.cell? ⟨X9,0,none⟩ = some (.int .i64 (P:Nat)) ∧ W.cell? ⟨X9,1,none⟩ = some (.int .i64 (V:Nat)) ∧ W.cell? ⟨X9,2,none⟩ = some (.int .i64 (U:Nat)) ∧ ∀ i,W.frozen? ⟨X9,i,none⟩ = false:=⟨by rw [cell_of_row _ _ _ _ _ _ h.al]; rfl,by rw [cell_of_row _ _ _ _ _ _ h.al]; rfl,by rw [cell_of_row _ _ _ _ _ _ h.al]; rfl,fun i => frozen_of_row _ _ i _ _ h.al⟩
theorem Cx.wset (h:Cx b0 G X2 X5 X8 X9 X11 X12 X14 cas D Bm P V U kd ky nn key val hs wp wv wu F W) (i:Nat) (v:Value):CBox X2 cas (W.setCell ⟨X14,i,none⟩ v) ∧ (W.setCell ⟨X14,i,none⟩ v).cell? ⟨X5,0,none⟩ = some (.pointer (some ⟨D,0,none⟩)) ∧ (W.setCell ⟨X14,i,none⟩ v).cell? ⟨X8,0,none⟩ = some (.pointer (some ⟨Bm,0,none⟩)) ∧ (W.setCell ⟨X14,i,none⟩ v).heap[X9]? = some (.cells #[.int .i64 (P:Nat),.int .i64 (V:Nat),.int .i64 (U:Nat)] 38 (0,0)) ∧ (W.setCell ⟨X14,i,none⟩ v).heap[X11]? = some (.cells #[.int .i64 kd,.int .i64 ky,.int .i64 nn] 40 (0,0)) ∧ EBox X12 key val hs (W.setCell ⟨X14,i,none⟩ v):=by
 have hp:Past [X14] W (W.setCell ⟨X14,i,none⟩ v):=(Past.refl [X14] W).store (p:=⟨X14,i,none⟩) (.inl (by simp)) v
 have lt:=h.lts
 have n:∀ X ∈ [X2,X5,X8,X9,X11,X12],X ∉ [X14]:=fun X hX e => by
  obtain rfl:X = X14:=by simpa using e
  exact h.n14 hX
 refine ⟨h.cb.past hp (n _ (by simp)),hp.cell h.c5 (n _ (by simp)),hp.cell h.c8 (n _ (by simp)), ?_, ?_,h.eb.past hp (n _ (by simp))⟩
 ·rw [hp.block X9 (lt _ (by simp)) (n _ (by simp))]; exact h.al
 ·rw [hp.block X11 (lt _ (by simp)) (n _ (by simp))]; exact h.ac
theorem Cx.setP (h:Cx b0 G X2 X5 X8 X9 X11 X12 X14 cas D Bm P V U kd ky nn key val hs wp wv wu F W) (x:Nat):Cx b0 G X2 X5 X8 X9 X11 X12 X14 cas D Bm P V U kd ky nn key val hs x wv wu F (W.setCell ⟨X14,0,none⟩ (.int .i64 (x:Nat))):=by
 obtain ⟨h1,h2,h3,h4,h5,h6⟩:=h.wset 0 (.int .i64 (x:Nat))
 exact ⟨h1,h2,h3,h4,h5,h6,heap_setCell_same W X14 0 _ _ _ h.wa,h.o,h.h,h.n9,h.n14⟩
theorem Cx.setV (h:Cx b0 G X2 X5 X8 X9 X11 X12 X14 cas D Bm P V U kd ky nn key val hs wp wv wu F W) (x:Nat):Cx b0 G X2 X5 X8 X9 X11 X12 X14 cas D Bm P V U kd ky nn key val hs wp x wu F (W.setCell ⟨X14,1,none⟩ (.int .i64 (x:Nat))):=by
 obtain ⟨h1,h2,h3,h4,h5,h6⟩:=h.wset 1 (.int .i64 (x:Nat))
 exact ⟨h1,h2,h3,h4,h5,h6,heap_setCell_same W X14 1 _ _ _ h.wa,h.o,h.h,h.n9,h.n14⟩
theorem Cx.setU (h:Cx b0 G X2 X5 X8 X9 X11 X12 X14 cas D Bm P V U kd ky nn key val hs wp wv wu F W) (x:Nat):Cx b0 G X2 X5 X8 X9 X11 X12 X14 cas D Bm P V U kd ky nn key val hs wp wv x F (W.setCell ⟨X14,2,none⟩ (.int .i64 (x:Nat))):=by
 obtain ⟨h1,h2,h3,h4,h5,h6⟩:=h.wset 2 (.int .i64 (x:Nat))
 exact ⟨h1,h2,h3,h4,h5,h6,heap_setCell_same W X14 2 _ _ _ h.wa,h.o,h.h,h.n9,h.n14⟩
/-- all counts are stored anew -/
theorem Cx.setA (h:Cx b0 G X2 X5 X8 X9 X11 X12 X14 cas D Bm P V U kd ky nn key val hs wp wv wu F W) (x y z:Nat):Cx b0 G X2 X5 X8 X9 X11 X12 X14 cas D Bm x y z kd ky nn key val hs wp wv wu F (((W.setCell ⟨X9,0,none⟩ (.int .i64 (x:Nat))).setCell ⟨X9,1,none⟩ (.int .i64 (y:Nat))).setCell ⟨X9,2,none⟩ (.int .i64 (z:Nat))):=by
 have hp:Past [X9] W (((W.setCell ⟨X9,0,none⟩ (.int .i64 (x:Nat))).setCell ⟨X9,1,none⟩ (.int .i64 (y:Nat))).setCell ⟨X9,2,none⟩ (.int .i64 (z:Nat))):=(((Past.refl [X9] W).store (p:=⟨X9,0,none⟩) (.inl (by simp)) _).store (p:=⟨X9,1,none⟩) (.inl (by simp)) _).store (p:=⟨X9,2,none⟩) (.inl (by simp)) _
 have lt:=h.lts
 have n:∀ X ∈ [X2,X5,X8,X11,X12,X14],X ∉ [X9]:=fun X hX e => by
  obtain rfl:X = X9:=by simpa using e
  exact h.n9 hX
 refine ⟨h.cb.past hp (n _ (by simp)),hp.cell h.c5 (n _ (by simp)),hp.cell h.c8 (n _ (by simp)), ?_, ?_,h.eb.past hp (n _ (by simp)), ?_,h.o,h.h,h.n9,h.n14⟩
 ·exact heap_setCell_same _ X9 2 _ _ _ (heap_setCell_same _ X9 1 _ _ _ (heap_setCell_same W X9 0 _ _ _ h.al))
 ·rw [hp.block X11 (lt _ (by simp)) (n _ (by simp))]; exact h.ac
 ·rw [hp.block X14 (lt _ (by simp)) (n _ (by simp))]; exact h.wa
end
end Go.Proofs.YtapndkabgjeofaaGreatDoor.dual

/-! ### dual: calls of a dual however often they come, for a drawn region. -/
namespace Go.Proofs.YtapndkabgjeofaaGreatDoor.dual
open Go.ChangeShapes Go.WideShapes Go.ChangeAt Go.RowKit Go.Shelf swar under trap meter group probe lens tail call table evac
set_option linter.unusedSimpArgs false
set_option linter.unusedVariables false

/-- behind so many calls -/
def GL (A B C:World → Prop):Nat → World → Prop
 | 0 => A
 | 1 => B
 | _ + 2 => C
section
variable {w:World} {d:List Nat} {A B C:World → Prop}
theorem GL.xg (lt:∀ b ∈ d,b < w.heap.size) (rA:∀ W W',A W → Below W.heap.size W W' → A W') (rB:∀ W W',B W → Below W.heap.size W W' → B W') (rC:∀ W W',C W → Below W.heap.size W W' → C W')
  (sA:∀ W b i u,A W → w.heap.size ≤ b → A (W.setCell ⟨b,i,none⟩ u)) (sB:∀ W b i u,B W → w.heap.size ≤ b → B (W.setCell ⟨b,i,none⟩ u)) (sC:∀ W b i u,C W → w.heap.size ≤ b → C (W.setCell ⟨b,i,none⟩ u)):XG w d (GL A B C):=
 ⟨lt,fun n W W' h hb => match n,h with
  | 0,h => rA W W' h hb
  | 1,h => rB W W' h hb
  | _ + 2,h => rC W W' h hb,fun n W b i u h hb => match n,h with
  | 0,h => sA W b i u h hb
  | 1,h => sB W b i u h hb
  | _ + 2,h => sC W b i u h hb⟩
theorem GL.call {P:Program} {f:FuncId} {args:Array Value} {val:Value} (c0:∀ W,A W → Calls P f args W fun e w' => e = .returned val ∧ B w' ∧ Past d W w') (hBC:∀ W,B W → C W) (cC:∀ W,C W → Calls P f args W fun e w' => (∃ v,e = .returned v) ∧ C w' ∧ Past d W w') :
  ∀ n W,GL A B C n W → Calls P f args W fun e w' => Past d W w' ∧ ∃ v,e = .returned v ∧ (n = 0 → v = val) ∧ GL A B C (n + 1) w':=fun n W h => match n,h with
 | 0,h => (c0 W h).mono fun e w' ⟨he,hB,hp⟩ => ⟨hp,_,he,fun _ => rfl,hB⟩
 | 1,h => (cC W (hBC W h)).mono fun e w' ⟨⟨v,he⟩,hC,hp⟩ => ⟨hp,v,he,fun e => absurd e (by decide),hC⟩
 | n + 2,h => (cC W h).mono fun e w' ⟨⟨v,he⟩,hC,hp⟩ => ⟨hp,v,he,fun e => absurd e (by omega),hC⟩
end
section
variable {a:String → Addr} {w0:World} {Y:Lay} {D n1 d:Nat} {dp:Int} {R E G c Bm q q':Nat} {t t':Nat → Tb} {fp fp':List Nat} {nx br nx' br':Nat} {u u':Nat → Tb} {k k':Nat → Nat} {m m':Mt} {P V U p v u0:Nat} {W W':World} {X5 X8 Xi:Nat}
/-- whatever the tables and the meter hold -/
def LW (a:String → Addr) (w0:World) (Y:Lay) (D n1 d:Nat) (dp:Int) (R E G c Bm q:Nat) (fp:List Nat) (nx br:Nat) (u:Nat → Tb) (k:Nat → Nat) (W:World):Prop:=∃ t m,LS a w0 Y D n1 d dp R E G c Bm q t fp nx br u k m W
theorem LW.delete (h:LW a w0 Y D n1 d dp R E G c Bm q fp nx br u k W) (key hs:Nat) (hk:key < 18446744073709551616) (hh:hs < 18446744073709551616) :
  Calls Tryz.prog 16 #[.pointer (some ⟨D,0,none⟩),.agg #[.pointer (some ⟨Bm,0,none⟩)],.int .u64 (key:Nat),.int .u64 (hs:Nat)] W fun e w' => (∃ v,e = .returned v) ∧ LW a w0 Y D n1 d dp R E G c Bm q fp nx br u k w' ∧ Past (Bm :: fp) W w':=by
 obtain ⟨t,m,h⟩:=h
 refine (h.da.delete (L:=.pr Bm 0) (m:=m) h.mt h.hd key hs hk hh).mono fun e w' ⟨he,hD,hst⟩ => ?_
 have hp':Past (Bm :: fp) W w':=hst.past.mono fun b hb => by
  rcases List.mem_append.1 hb with hb | hb
  ·exact List.mem_cons_of_mem _ (h.da.tin b hb)
  ·obtain rfl:b = Bm:=by simpa [Ln.d] using hb
   exact List.mem_cons_self
 exact ⟨⟨_,he⟩,⟨_,_,h.real hD hst.at' hp' fun b hb => .inl hb⟩,hp'⟩
theorem LW.find (h:LW a w0 Y D n1 d dp R E G c Bm q fp nx br u k W) (key hs:Nat) (hk:key < 18446744073709551616) (hh:hs < 18446744073709551616) :
  Calls Tryz.prog 18 #[.pointer (some ⟨D,0,none⟩),.agg #[.pointer (some ⟨Bm,0,none⟩)],.int .u64 (key:Nat),.int .u64 (hs:Nat)] W fun e w' => (∃ v,e = .returned v) ∧ LW a w0 Y D n1 d dp R E G c Bm q fp nx br u k w' ∧ Past (Bm :: fp) W w':=by
 obtain ⟨t,m,h⟩:=h
 refine (h.da.find (L:=.pr Bm 0) (m:=m) h.mt h.hd key hs hk hh).mono fun e w' ⟨he,hD,hst⟩ => ?_
 have hp':Past (Bm :: fp) W w':=hst.past.mono fun b hb => by
  obtain rfl:b = Bm:=by simpa [Ln.d] using hb
  exact List.mem_cons_self
 exact ⟨⟨_,he⟩,⟨_,_,h.real hD hst.at' hp' fun b hb => .inl hb⟩,hp'⟩
theorem LW.least (h:LW a w0 Y D n1 d dp R E G c Bm q fp nx br u k W) (hash key:Nat) :
  Calls Tryz.prog 20 #[.pointer (some ⟨D,0,none⟩),.agg #[.pointer (some ⟨Bm,0,none⟩)],.int .u64 (hash:Nat),.int .u64 (key:Nat)] W fun e w' => (∃ v,e = .returned v) ∧ LW a w0 Y D n1 d dp R E G c Bm q fp nx br u k w' ∧ Past (Bm :: fp) W w':=by
 obtain ⟨t,m,h⟩:=h
 refine (h.da.least (L:=.pr Bm 0) (m:=m) h.mt h.hd hash key).mono fun e w' ⟨he,hD,hst⟩ => ?_
 have hp':Past (Bm :: fp) W w':=hst.past.mono fun b hb => by
  obtain rfl:b = Bm:=by simpa [Ln.d] using hb
  exact List.mem_cons_self
 exact ⟨⟨_,he⟩,⟨_,_,h.real hD hst.at' hp' fun b hb => .inl hb⟩,hp'⟩
/-- for the region: what two stages bear -/
theorem LS.xg {t1 t2:Nat → Tb} {m1 m2:Mt} {w:World} (h:LS a w0 Y D n1 d dp R E G c Bm q t fp nx br u k m w):XG w (Bm :: fp) (GL (LS a w0 Y D n1 d dp R E G c Bm q t1 fp nx br u k m1) (LS a w0 Y D n1 d dp R E G c Bm q t2 fp nx br u k m2) (LW a w0 Y D n1 d dp R E G c Bm q fp nx br u k)):=
 GL.xg (fun b hb => h.lts.1 b (ft_real b hb)) (fun W W' h hb => h.read hb) (fun W W' h hb => h.read hb) (fun W W' ⟨t,m,h⟩ hb => ⟨t,m,h.read hb⟩)
  (fun W b i v h' hb => h'.box (h.new hb).1 (h.new hb).2.1 (h.new hb).2.2 i v) (fun W b i v h' hb => h'.box (h.new hb).1 (h.new hb).2.1 (h.new hb).2.2 i v) (fun W b i v ⟨t,m,h'⟩ hb => ⟨t,m,h'.box (h.new hb).1 (h.new hb).2.1 (h.new hb).2.2 i v⟩)
end
theorem LS.set3 {a:String → Addr} {w0:World} {Y:Lay} {D n1 d:Nat} {dp:Int} {R E G c Bm q:Nat} {t:Nat → Tb} {fp:List Nat} {nx br:Nat} {u:Nat → Tb} {k:Nat → Nat} {m:Mt} {W:World} (h:LS a w0 Y D n1 d dp R E G c Bm q t fp nx br u k m W) {X:Nat} (hX:w0.heap.size ≤ X ∧ X ≠ G ∧ X ∉ Ft Y R E Bm fp) (x y z:Nat):LS a w0 Y D n1 d dp R E G c Bm q t fp nx br u k m (set3 X x y z W):=
 ((h.box hX.1 hX.2.1 hX.2.2 0 _).box hX.1 hX.2.1 hX.2.2 1 _).box hX.1 hX.2.1 hX.2.2 2 _
theorem Cx.set3 {b0 G X2 X5 X8 X9 X11 X12 X14:Nat} {cas:Cas} {D Bm P V U:Nat} {kd ky nn:Int} {key val hs wp wv wu:Nat} {F:List Nat} {W:World} (h:Cx b0 G X2 X5 X8 X9 X11 X12 X14 cas D Bm P V U kd ky nn key val hs wp wv wu F W) {X:Nat} (hX:∀ Z ∈ [X2,X5,X8,X9,X11,X12,X14],Z ≠ X) (x y z:Nat):Cx b0 G X2 X5 X8 X9 X11 X12 X14 cas D Bm P V U kd ky nn key val hs wp wv wu F (set3 X x y z W):=
 ((h.box hX 0 _).box hX 1 _).box hX 2 _
theorem entsA_few {t:Nat → Tb}:∀ N,(entsA t N).length ≤ 8 * gS t N
 | 0 => by simp [entsA,gS]
 | N + 1 => by
  have h1:=entsA_few (t:=t) N
  have h2:=table.ents_le (t N) (t N).n
  rw [entsA_succ,List.length_append]
  show _ ≤ 8 * (gS t N + (t N).n)
  omega
theorem rdy_eq (Y:Lay) (n1 q:Nat):decide ((Y.N - 1) * n1 - q = 0) = rdy Y n1 q:=by
 unfold rdy
 by_cases h:(Y.N - 1) * n1 ≤ q
 ·rw [decide_eq_true h,decide_eq_true (by omega)]
 ·rw [decide_eq_false h,decide_eq_false (by omega)]
theorem dE_le (t:Nat → Tb) (key hs:Nat) (J:List Nat) (more:Bool):dE t key hs J more ≤ 16:=by
 unfold dE
 split
 ·omega
 ·split
  ·rcases putE_le' (t (dI t key hs J)) key hs with h | h <;> omega
  ·omega
end Go.Proofs.YtapndkabgjeofaaGreatDoor.dual
