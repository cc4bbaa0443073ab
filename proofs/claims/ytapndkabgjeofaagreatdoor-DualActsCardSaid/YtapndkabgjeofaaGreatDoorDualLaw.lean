/- dual: what a dual answers, act by act: the law, for all inputs. -/
import Derived.Test.YtapndkabgjeofaaGreatDoorDualActs
namespace Go.Proofs.YtapndkabgjeofaaGreatDoor.dual
open Go.ChangeShapes Go.WideShapes Go.ChangeAt Go.RowKit Go.Shelf swar under trap meter group probe lens tail call table evac
attribute [local go_sem] Oper.semAt_some stage.pureUpon move.stepUpon
set_option linter.unusedSimpArgs false
set_option linter.unusedVariables false

set_option maxRecDepth 100000 in
set_option maxHeartbeats 1000000 in
theorem acts_long (a:String → Addr) (c:Cas) (s2:Option Addr) (lb cb:Nat) (hl:¬ ∃ n0,Short c n0) (w:World) (hw:Base a w) :
  Calls Tryz.prog 3 #[.agg #[.int .i64 c.old,.int .i64 c.new,.int .i64 c.depth,.slice c.sh c.lh c.ch,.slice c.sk c.lk c.ck],.slice s2 lb cb] w fun e w' => e = .returned (.bool true) ∧ Below w.heap.size w w':=by
 have cA:=fun W (hb:Below w.heap.size w W) => alive_any a W (.of (hw.below hb))
 have hX0:=CBox.new c w
 have hb0:=new_block w (.cells #[.int .i64 c.old,.int .i64 c.new,.int .i64 c.depth,.slice c.sh c.lh c.ch,.slice c.sk c.lk c.ck] 25)
 have cL:=fun W => long_yes hl W
 obtain ⟨old,new,depth,sh,lh,ch,sk,lk,ck⟩:=c
 simp only at *
 clear hl
 go_enter Tryz.func3,Tryz.ntmps3
 go_wp2_with (first
  | (go_at_call 6; refine (cA _ hb0).mono ?_; rintro e w1 ⟨rfl,hb1⟩; have ⟨x0,x1,x2,x3,x4⟩:=CBox.all (hX0.keep hb1))
  | (go_at_call 7; refine (cL _).mono ?_; rintro e w2 ⟨rfl,hb2⟩; have ⟨y0,y1,y2,y3,y4⟩:=CBox.all ((hX0.keep hb1).keep hb2)))
 go_ret
 exact ⟨rfl,under.below_step (under.below_step hb0 hb1) hb2⟩
set_option maxRecDepth 100000 in
set_option maxHeartbeats 1000000 in
theorem acts_more (a:String → Addr) (c:Cas) (s2:Option Addr) (lb cb:Nat) (n0:Nat) (hS:Short c n0) (hm:120 < lb) (w:World) (hw:Base a w) :
  Calls Tryz.prog 3 #[.agg #[.int .i64 c.old,.int .i64 c.new,.int .i64 c.depth,.slice c.sh c.lh c.ch,.slice c.sk c.lk c.ck],.slice s2 lb cb] w fun e w' => e = .returned (.bool true) ∧ Below w.heap.size w w':=by
 have cA:=fun W (hb:Below w.heap.size w W) => alive_any a W (.of (hw.below hb))
 have hX0:=CBox.new c w
 have hb0:=new_block w (.cells #[.int .i64 c.old,.int .i64 c.new,.int .i64 c.depth,.slice c.sh c.lh c.ch,.slice c.sk c.lk c.ck] 25)
 have cL:=fun W => long_no hS W
 have d1:decide (120 < (lb:Int)) = true:=decide_eq_true (by omega)
 obtain ⟨old,new,depth,sh,lh,ch,sk,lk,ck⟩:=c
 simp only at *
 clear hS hm
 go_enter Tryz.func3,Tryz.ntmps3
 go_wp2_with (first
  | (go_at_call 6; refine (cA _ hb0).mono ?_; rintro e w1 ⟨rfl,hb1⟩; have ⟨x0,x1,x2,x3,x4⟩:=CBox.all (hX0.keep hb1))
  | (go_at_call 7; refine (cL _).mono ?_; rintro e w2 ⟨rfl,hb2⟩; have ⟨y0,y1,y2,y3,y4⟩:=CBox.all ((hX0.keep hb1).keep hb2)))
 go_ret
 exact ⟨rfl,under.below_step (under.below_step hb0 hb1) hb2⟩
theorem acts_law (a:String → Addr) (old new depth:Int) (sh:Option Addr) (lh ch:Nat) (sk:Option Addr) (lk ck:Nat) (s2:Option Addr) (lb cb:Nat) (hz:Nat → Nat) (kz:Nat → Int) (az:Nat → Ac) (w:World) (hw:Base a w) (hH:HashAt sh lh w hz) (hK:IntsAt sk lk w kz) (hA:ActAt s2 lb w az) :
  Calls Tryz.prog 3 #[.agg #[.int .i64 old,.int .i64 new,.int .i64 depth,.slice sh lh ch,.slice sk lk ck],.slice s2 lb cb] w fun e w' => e = .returned (.bool true) ∧ Below w.heap.size w w':=by
 by_cases hl:∃ n0,Short ⟨old,new,depth,sh,lh,ch,sk,lk,ck⟩ n0
 ·obtain ⟨n0,hS⟩:=hl
  by_cases hm:120 < lb
  ·exact acts_more a ⟨old,new,depth,sh,lh,ch,sk,lk,ck⟩ s2 lb cb n0 hS hm w hw
  ·obtain rfl:old = n0:=hS.e0
   exact acts_few a n0 new depth sh lh ch sk lk ck s2 lb cb hS hm hz kz az w hw hH hK hA
 ·exact acts_long a ⟨old,new,depth,sh,lh,ch,sk,lk,ck⟩ s2 lb cb hl w hw
end Go.Proofs.YtapndkabgjeofaaGreatDoor.dual
