/- TrapM: facts and laws for the walks. -/
import Derived.Test.YtdplhgpeggcmdaaGreatDoorErrC
import Derived.Deep.DeepMakeLenPanics
import Derived.Test.YtdplhgpeggcmdaaGreatDoorKit
namespace Go.Proofs.YtdplhgpeggcmdaaGreatDoor
set_option linter.unusedSimpArgs false
set_option linter.unusedVariables false
namespace trap
open Go.RowKit errs
def errAt(a:String→Addr):Nat→Value
 | 0=>.nilIface
 | k+1=>errV (a (nm k))
abbrev thrown(v:Value):List PanicEntry:=[{ v:=v,recovered:=false }]
abbrev raisedV(x:Addr):Value:=.iface 143 (.agg #[errV x])
theorem raise_nil(w:World):Calls Tryz.prog 83 #[.nilIface] w fun e w'=>e=.returned (.tuple #[])∧w=w':=by
 go_enter Tryz.func83,Tryz.ntmps83
 go_wp2
 go_end0
 exact⟨rfl,rfl⟩
theorem raise_err(x:Addr)(w:World):Calls Tryz.prog 83 #[errV x] w fun e w'=>e=.panicked (thrown (raisedV x))∧w=w':=by
 go_enter Tryz.func83,Tryz.ntmps83
 go_wp2;exact⟨rfl,rfl,rfl⟩
def Ends(a:String→Addr)(b:Nat)(e:Ending):Prop:=
 (b=0∧e=.returned (.tuple #[]))∨(∃k,k<16∧b=k+1∧e=.panicked (thrown (raisedV (a (nm k)))))∨(b=10∧∃T v,T≠143∧e=.panicked (thrown (.iface T v)))
theorem Ends.back{a:String→Addr}:Ends a 0 (.returned (.tuple #[])):=.inl ⟨rfl,rfl⟩
theorem Ends.raised{a:String→Addr}(k:Nat)(h:k<16):Ends a (k+1) (.panicked (thrown (raisedV (a (nm k))))):=.inr (.inl ⟨k,h,rfl,rfl⟩)
end trap
namespace trap
open Go.RowKit errs under
theorem caught_idle(b e:Nat)(w:World)(hb:w.cell? ⟨b,0,none⟩=some (.bool true)) :
  CallsD Tryz.prog 74 #[.pointer (some ⟨b,0,none⟩),.pointer (some ⟨e,0,none⟩)] .returning w fun r u' w'=>r=.returned (.tuple #[])∧u'=.returning∧w'=w:=by
 refine callsD_of_wpS Tryz.func74 rfl fun c₀ cs hu=>?_
 apply wpS_seq
 apply wpS_seq
 apply wpS_region
 simp [wpOpsS,go_sem,hu,Tryz.ntmps74,Exit.thenS,hb]
 refine wpS_cond (t:=true) (by simp [Act.eval,Array.replicate]) ?_;simp only [if_true];refine wpS_of_wp (wp_ret ?_);cases c₀
 simp_all [bodyPostS,results,Tryz.results74,Exit.thenS]
theorem is_raised(v:Value)(w:World):(Instr.typeAssert (.iface 143 v) 20 143 true).run Tryz.prog w=.ok (.tuple #[v,.bool true]) w:=by kernel_rfl
theorem is_other(T:TypeId)(hT:T≠143)(v:Value)(w:World):(Instr.typeAssert (.iface T v) 20 143 true).run Tryz.prog w=.ok (.tuple #[.agg #[.nilIface],.bool false]) w:=by
 have hz:(zeroValue 143).run Tryz.prog w=.ok (.agg #[.nilIface]) w:=by kernel_rfl
 simp [Instr.typeAssert,run_underlying Tryz.underlying143,hT,go_sem,hz]
theorem caught_raised(b e:Nat)(x:Addr)(w:World)(hb:w.cell? ⟨b,0,none⟩=some (.bool false))(o:Value)(he:w.cell? ⟨e,0,none⟩=some o)(hf:w.frozen? ⟨e,0,none⟩=false) :
  CallsD Tryz.prog 74 #[.pointer (some ⟨b,0,none⟩),.pointer (some ⟨e,0,none⟩)] (.panicking (thrown (raisedV x))) w fun r u' w'=>r=.returned (.tuple #[])∧u'=.panicking [{ v:=raisedV x,recovered:=true }] ∧
   ∃o,w'=(w.setCell ⟨e,0,none⟩ (errV x)).alloc o:=by
 refine callsD_of_wpS Tryz.func74 rfl fun c₀ cs hu=>?_
 apply wpS_seq
 apply wpS_seq
 apply wpS_region
 simp [wpOpsS,go_sem,Tryz.ntmps74,Exit.thenS,hb]
 refine wpS_cond (t:=false) (by simp [Act.eval,Array.replicate]) ?_;simp only [Bool.false_eq_true,if_false];refine wpS_of_wp (wp_skip ?_);simp only [Exit.thenS]
 apply wpS_seq
 apply wpS_region
 simp [wpOpsS,go_sem,recoverD,hu,Exit.thenS]
 refine wpS_of_wp ?_;have hr:=is_raised;have hel:e<w.heap.size:=World.block_lt_of_cell? w _ he;go_wp2;refine⟨rfl,_,rfl,.tuple #[], ?_,rfl,rfl,_,rfl⟩
 simp [results,Tryz.results74,go_sem]
theorem caught_other(a:String→Addr)(b e:Nat)(T:TypeId)(hT:T≠143)(v:Value)(w:World)(hE:ErrsOk names a w)(hb:w.cell? ⟨b,0,none⟩=some (.bool false))(o:Value)(he:w.cell? ⟨e,0,none⟩=some o)(hf:w.frozen? ⟨e,0,none⟩=false) :
  CallsD Tryz.prog 74 #[.pointer (some ⟨b,0,none⟩),.pointer (some ⟨e,0,none⟩)] (.panicking (thrown (.iface T v))) w fun r u' w'=>r=.returned (.tuple #[])∧u'=.panicking [{ v:=.iface T v,recovered:=true }] ∧
   w' = w.setCell ⟨e, 0, none⟩ (errV (a "ambler/api.ErrBroken")) := by
 have c:=hE.at gErrBroken (nm_mem (i:=9) (by decide));refine callsD_of_wpS Tryz.func74 rfl fun c₀ cs hu=>?_
 apply wpS_seq
 apply wpS_seq
 apply wpS_region
 simp [wpOpsS,go_sem,Tryz.ntmps74,Exit.thenS,hb]
 refine wpS_cond (t:=false) (by simp [Act.eval,Array.replicate]) ?_;simp only [Bool.false_eq_true,if_false];refine wpS_of_wp (wp_skip ?_);simp only [Exit.thenS]
 apply wpS_seq
 apply wpS_region
 simp [wpOpsS,go_sem,recoverD,hu,Exit.thenS]
 refine wpS_of_wp ?_;have hr:=is_other T hT v;go_wp2;refine⟨rfl,_,rfl,.tuple #[], ?_,rfl,rfl,rfl⟩
 simp [results,Tryz.results74,go_sem]
theorem hfun(fn:Fn)(cap:Array Value)(w:World):(binOp BinOp.eql 1 (.func fn #[] cap) .nilFunc).run Tryz.prog w=.ok (.bool false) w:=by kernel_rfl
theorem old{w:World}{p:Addr}{v:Value}(o:Obj)(h:w.cell? p=some v):(w.alloc o).cell? p=some v:=(((Below.refl _ w).alloc (Nat.le_refl _) o).cell (World.block_lt_of_cell? w _ h)).trans h
theorem must_nil(v:Int)(w:World):Calls Tryz.prog 156 #[.int .i64 v,.nilIface] w fun e w'=>e=.returned (.int .i64 v)∧w=w':=by
 go_enter Tryz.func156,Tryz.ntmps156
 go_wp2_with (go_at_call 83;refine (raise_nil _).mono ?_;rintro e w' ⟨rfl,rfl⟩)
 go_ret
 exact⟨rfl,rfl⟩
end trap
namespace meter
open Go.RowKit errs under trap
theorem within_any(x:Int)(w:World):Calls Tryz.prog 188 #[.int .i64 x] w fun e w'=>e=.returned (.int .i64 (cl x))∧w=w':=by
 go_enter Tryz.func188,Tryz.ntmps188
 go_wp2
 all_goals
  go_ret
  refine⟨congrArg Ending.returned (congrArg (Value.int .i64) ?_),rfl⟩;unfold cl;omega
theorem sum_any(a b:Int)(w:World):Calls Tryz.prog 179 #[.int .i64 a,.int .i64 b] w fun e w'=>e=.returned (.int .i64 (sm a b))∧w=w':=by
 have h1:=cl_lo a;have h2:=cl_hi a;have h3:=cl_lo b;have h4:=cl_hi b
 go_enter Tryz.func179,Tryz.ntmps179
 go_wp2_with (go_at_call 188;refine (within_any _ _).mono ?_;rintro e w' ⟨rfl,rfl⟩)
 go_ret
 exact⟨rfl,rfl⟩
set_option maxHeartbeats 4000000 in
theorem add_any(B o:Nat)(a l n:Int)(w:World)(ha:w.cell? ⟨B,o,none⟩=some (.int .i64 a))(hl:w.cell? ⟨B,o+1,none⟩=some (.int .i64 l))(fa:w.frozen? ⟨B,o,none⟩=false)(fl:w.frozen? ⟨B,o+1,none⟩=false) :
  Calls Tryz.prog 158 #[.pointer (some ⟨B,o,none⟩),.int .i64 n] w fun e w'=>e=.returned (.tuple #[])∧w'=((w.setCell ⟨B,o,none⟩ (.int .i64 (sm a n))).setCell ⟨B,o+1,none⟩ (.int .i64 (sm l n))).drew:=by
 go_enter Tryz.func158,Tryz.ntmps158
 go_wp2
 go_region_with (go_at_call 179;refine (sum_any _ _ _).mono ?_;rintro e w' ⟨rfl,rfl⟩)
 all_goals
  go_wp2
  go_end0
  exact⟨rfl,rfl⟩
structure MAt(B o:Nat)(m:Mt)(w:World):Prop where
 pa:w.cell? ⟨B,o,none⟩=some (.int .i64 m.pa)
 pl:w.cell? ⟨B,o+1,none⟩=some (.int .i64 m.pl)
 va:w.cell? ⟨B,o+2,none⟩=some (.int .i64 m.va)
 vl:w.cell? ⟨B,o+3,none⟩=some (.int .i64 m.vl)
 ua:w.cell? ⟨B,o+4,none⟩=some (.int .i64 m.ua)
 ul:w.cell? ⟨B,o+5,none⟩=some (.int .i64 m.ul)
 lim:w.cell? ⟨B,o+6,none⟩=some (.int .i64 m.lim)
 on:w.cell? ⟨B,o+7,none⟩=some (.bool m.on)
 fz:∀i,w.frozen? ⟨B,i,none⟩=false
theorem MAt.lt{B o:Nat}{m:Mt}{w:World}(h:MAt B o m w):B<w.heap.size:=World.block_lt_of_cell? w _ h.pa
theorem MAt.of_block{B o:Nat}{m:Mt}{w w':World}(h:MAt B o m w)(he:w'.heap[B]?=w.heap[B]?):MAt B o m w':=by
 have c:∀i v,w.cell? ⟨B,i,none⟩=some v→w'.cell? ⟨B,i,none⟩=some v:=fun i v hc=>(World.cell?_of_block (w:=w) he).trans hc
 exact⟨c _ _ h.pa,c _ _ h.pl,c _ _ h.va,c _ _ h.vl,c _ _ h.ua,c _ _ h.ul,c _ _ h.lim,c _ _ h.on,fun i=>(World.frozen?_of_block (w:=w) he).trans (h.fz i)⟩
theorem MAt.below{B o:Nat}{m:Mt}{w w':World}(h:MAt B o m w)(hb:Below w.heap.size w w'):MAt B o m w':=h.of_block (hb.block B h.lt)
theorem MAt.past{B o:Nat}{m:Mt}{w w':World}{d:List Nat}(h:MAt B o m w)(hb:Past d w w')(hd:B∉d):MAt B o m w':=h.of_block (hb.block B h.lt hd)
theorem MAt.drew{B o:Nat}{m:Mt}{w:World}(h:MAt B o m w):MAt B o m w.drew:=h.of_block rfl
theorem MAt.drewN{B o:Nat}{m:Mt}{w:World}(h:MAt B o m w)(q:Nat):MAt B o m (w.drewN q):=h.of_block rfl
theorem MAt.probes{B o:Nat}{m:Mt}{w:World}(h:MAt B o m w)(n:Int):MAt B o (m.probes n) ((w.setCell ⟨B,o,none⟩ (.int .i64 (sm m.pa n))).setCell ⟨B,o+1,none⟩ (.int .i64 (sm m.pl n))):=by
 obtain⟨h0,h1,h2,h3,h4,h5,h6,h7,hf⟩:=h;constructor <;> simp [Mt.probes,World.cell?_setCell_same',World.cell?_setCell_other,h0,h1,h2,h3,h4,h5,h6,h7,hf]
theorem MAt.visits{B o:Nat}{m:Mt}{w:World}(h:MAt B o m w)(n:Int):MAt B o (m.visits n) ((w.setCell ⟨B,o+2,none⟩ (.int .i64 (sm m.va n))).setCell ⟨B,o+3,none⟩ (.int .i64 (sm m.vl n))):=by
 obtain⟨h0,h1,h2,h3,h4,h5,h6,h7,hf⟩:=h;constructor <;> simp [Mt.visits,World.cell?_setCell_same',World.cell?_setCell_other,h0,h1,h2,h3,h4,h5,h6,h7,hf]
theorem MAt.units{B o:Nat}{m:Mt}{w:World}(h:MAt B o m w)(n:Int):MAt B o (m.units n) ((w.setCell ⟨B,o+4,none⟩ (.int .i64 (sm m.ua n))).setCell ⟨B,o+5,none⟩ (.int .i64 (sm m.ul n))):=by
 obtain⟨h0,h1,h2,h3,h4,h5,h6,h7,hf⟩:=h;constructor <;> simp [Mt.units,World.cell?_setCell_same',World.cell?_setCell_other,h0,h1,h2,h3,h4,h5,h6,h7,hf]
theorem MAt.new(w:World):MAt w.heap.size 0 Mt.zero (w.alloc (.cells #[.int .i64 0,.int .i64 0,.int .i64 0,.int .i64 0,.int .i64 0,.int .i64 0,.int .i64 0,.bool false] 38)):=by
 constructor <;> simp [Mt.zero,go_sem]
structure Side(B o:Nat)(w w':World):Prop where
 cells:∀i,(i<o∨o+8≤i)→w'.cell? ⟨B,i,none⟩=w.cell? ⟨B,i,none⟩
 frozen:∀i,w'.frozen? ⟨B,i,none⟩=w.frozen? ⟨B,i,none⟩
theorem Side.refl(B o:Nat)(w:World):Side B o w w:=⟨fun _ _=>rfl,fun _=>rfl⟩
theorem Side.trans{B o:Nat}{x y z:World}(h:Side B o x y)(k:Side B o y z):Side B o x z:=⟨fun i hi=>(k.cells i hi).trans (h.cells i hi),fun i=>(k.frozen i).trans (h.frozen i)⟩
theorem Side.of_block{B o:Nat}{w w':World}(he:w'.heap[B]?=w.heap[B]?):Side B o w w':=⟨fun _ _=>World.cell?_of_block (w:=w) he,fun _=>World.frozen?_of_block (w:=w) he⟩
theorem Side.store{B o:Nat}{x w:World}(h:Side B o x w)(j:Nat)(h0:o≤j)(h1:j<o+8)(u:Value):Side B o x (w.setCell ⟨B,j,none⟩ u):=by
 refine h.trans ⟨fun i hi=>?_,fun i=>by simp [go_sem]⟩;exact World.cell?_setCell_other _ _ _ _ (by intro e;injection e with _ e _;omega)
structure MStep(B o:Nat)(m:Mt)(w w':World):Prop where
 past:Past [B] w w'
 side:Side B o w w'
 at':MAt B o m w'
theorem MStep.of{B o:Nat}{m:Mt}{w w':World}(h:MAt B o m w)(hb:Below w.heap.size w w'):MStep B o m w w':=⟨Past.of hb,Side.of_block (hb.block B h.lt),h.below hb⟩
theorem MStep.trans{B o:Nat}{m m':Mt}{x y z:World}(h:MStep B o m x y)(k:MStep B o m' y z):MStep B o m' x z:=⟨h.past.trans k.past,h.side.trans k.side,k.at'⟩
theorem MStep.drew{B o:Nat}{m:Mt}{x y:World}(h:MStep B o m x y):MStep B o m x y.drew:=⟨⟨h.past.os,h.past.tape,h.past.output,h.past.size,h.past.block⟩,⟨h.side.cells,h.side.frozen⟩,h.at'.drew⟩
theorem MStep.drewN{B o:Nat}{m:Mt}{x y:World}(h:MStep B o m x y)(q:Nat):MStep B o m x (y.drewN q):=⟨⟨h.past.os,h.past.tape,h.past.output,h.past.size,h.past.block⟩,⟨h.side.cells,h.side.frozen⟩,h.at'.drewN q⟩
theorem ends_zero{a:String→Addr}{e:Ending}(h:trap.Ends a 0 e):e=.returned (.tuple #[]):=by
 rcases h with⟨_,h⟩|⟨k,_,h,_⟩|⟨h,_⟩
 ·exact h
 ·omega
 ·omega
theorem set2{B o:Nat}{x w:World}(hp:Past [B] x w)(hs:Side B o x w)(i j:Nat)(hi:o≤i∧i<o+8)(hj:o≤j∧j<o+8)(u v:Value):Past [B] x ((w.setCell ⟨B,i,none⟩ u).setCell ⟨B,j,none⟩ v)∧Side B o x ((w.setCell ⟨B,i,none⟩ u).setCell ⟨B,j,none⟩ v):=
 ⟨(hp.store (p:=⟨B,i,none⟩) (.inl (by simp)) u).store (p:=⟨B,j,none⟩) (.inl (by simp)) v,(hs.store i hi.1 hi.2 u).store j hj.1 hj.2 v⟩
theorem probing_any(B o:Nat)(w:World):Calls Tryz.prog 12 #[.pointer (some ⟨B,o,none⟩)] w fun e w'=>e=.returned (.agg #[.pointer (some ⟨B,o,none⟩)])∧Below w.heap.size w w':=by
 go_enter Tryz.func12,Tryz.ntmps12
 go_wp2;exact bodyPost_ret (v:=.agg #[.pointer (some ⟨B,o,none⟩)]) (by simp [results,Tryz.results12,go_sem]) rfl ⟨rfl,(Below.refl _ _).alloc (Nat.le_refl _) _⟩
theorem working_any(B o:Nat)(w:World):Calls Tryz.prog 150 #[.pointer (some ⟨B,o,none⟩)] w fun e w'=>e=.returned (.agg #[.pointer (some ⟨B,o+2,none⟩)])∧Below w.heap.size w w':=by
 go_enter Tryz.func150,Tryz.ntmps150
 go_wp2;exact bodyPost_ret (v:=.agg #[.pointer (some ⟨B,o+2,none⟩)]) (by simp [results,Tryz.results150,go_sem]) rfl ⟨rfl,(Below.refl _ _).alloc (Nat.le_refl _) _⟩
theorem passes_any(B o:Nat)(m:Mt)(hm:m.Ok)(n:Int)(w:World)(h:MAt B o m w):Calls Tryz.prog 168 #[.pointer (some ⟨B,o,none⟩),.int .i64 n] w fun e w'=>e=.returned (.bool (m.past n))∧∃q,w'=w.drewN q:=by
 obtain⟨h0,h1,h2,h3,h4,h5,h6,h7,hf⟩:=h;have b1:=hm.ul0;have b2:=hm.ul1;have b3:=hm.lim1;have b4:=hm.on0;unfold Mt.past;cases hon:m.on
 ·rw [hon] at h7
  clear hon b4
  go_enter Tryz.func168,Tryz.ntmps168
  go_wp2
  go_quiet (fail)
  go_wp2
  go_ret
  exact⟨rfl,_,rfl⟩
 ·rw [hon] at h7
  have b5:=b4 hon;clear hon b4
  go_enter Tryz.func168,Tryz.ntmps168
  go_wp2
  go_quiet (fail)
  go_wp2
  go_ret
  exact⟨by simp,_,rfl⟩
theorem visit_nil(w:World):Calls Tryz.prog 130 #[.agg #[.pointer none]] w fun e w'=>e=.returned (.tuple #[])∧Below w.heap.size w w':=by
 go_enter Tryz.func130,Tryz.ntmps130
 go_wp2
 go_end0
 exact⟨rfl,(Below.refl _ _).alloc (Nat.le_refl _) _⟩
theorem new_block(w:World)(o:Obj):Below w.heap.size w (w.alloc o):=(Below.refl _ _).alloc (Nat.le_refl _) _
theorem visit_probes(B o:Nat)(m:Mt)(w:World)(h:MAt B o m w):Calls Tryz.prog 130 #[.agg #[.pointer (some ⟨B,o,none⟩)]] w fun e w'=>e=.returned (.tuple #[])∧MStep B o (m.probes 1) w w':=by
 have hb:=new_block w (.cells #[.pointer (some ⟨B,o,none⟩)] 52);have h':=h.below hb;have c:=add_any B o _ _ 1 _ h'.pa h'.pl (h'.fz _) (h'.fz _);have hm:=h'.probes 1;obtain⟨hp,hs⟩:=set2 (Past.of (d:=[B]) hb) (Side.of_block (o:=o) (hb.block B h.lt)) o (o+1) ⟨by omega,by omega⟩ ⟨by omega,by omega⟩ (.int .i64 (sm m.pa 1)) (.int .i64 (sm m.pl 1))
 go_enter Tryz.func130,Tryz.ntmps130
 go_wp2_with (go_at_call 158;refine c.mono ?_;rintro e w' ⟨rfl,rfl⟩)
 go_end0
 exact⟨rfl,MStep.drew ⟨hp,hs,hm⟩⟩
theorem visit_visits(B o:Nat)(m:Mt)(w:World)(h:MAt B o m w):Calls Tryz.prog 130 #[.agg #[.pointer (some ⟨B,o+2,none⟩)]] w fun e w'=>e=.returned (.tuple #[])∧MStep B o (m.visits 1) w w':=by
 have hb:=new_block w (.cells #[.pointer (some ⟨B,o+2,none⟩)] 52);have h':=h.below hb;have c:=add_any B (o+2) _ _ 1 _ h'.va h'.vl (h'.fz _) (h'.fz _);have hm:=h'.visits 1;obtain⟨hp,hs⟩:=set2 (Past.of (d:=[B]) hb) (Side.of_block (o:=o) (hb.block B h.lt)) (o+2) (o+3) ⟨by omega,by omega⟩ ⟨by omega,by omega⟩ (.int .i64 (sm m.va 1)) (.int .i64 (sm m.vl 1))
 go_enter Tryz.func130,Tryz.ntmps130
 go_wp2_with (go_at_call 158;refine c.mono ?_;rintro e w' ⟨rfl,rfl⟩)
 go_end0
 exact⟨rfl,MStep.drew ⟨hp,hs,hm⟩⟩
theorem unit_any (a : String → Addr) (B o : Nat) (m : Mt) (hm : m.Ok) (n : Int) (w : World) (h : MAt B o m w) (hE : w.cell? ⟨11, 0, none⟩ = some (errV (a "ambler/api.ErrLimit"))) :
  Calls Tryz.prog 148 #[.pointer (some ⟨B,o,none⟩),.int .i64 n] w fun e w'=>trap.Ends a (m.unitE n) e∧MStep B o (m.unit n) w w':=by
 have h0:=MStep.of h (Below.refl _ w);unfold Mt.unit Mt.unitE
 by_cases hn:n<1
 ·have d:decide (n<1)=true:=decide_eq_true hn
  rw [if_pos hn,if_pos hn]
  go_enter Tryz.func148,Tryz.ntmps148
  go_wp2;exact bodyPost_ret (results_none rfl _ _ _) rfl ⟨.back,h0⟩
 ·have d:decide (n<1)=false:=decide_eq_false hn
  rw [if_neg hn,if_neg hn];have c:=passes_any B o m hm n w h;cases hp:m.past n
  ·rw [hp] at c
   have hu:=h.units n;obtain⟨p2,s2⟩:=set2 (Past.refl [B] w) (Side.refl B o w) (o+4) (o+5) ⟨by omega,by omega⟩ ⟨by omega,by omega⟩ (.int .i64 (sm m.ua n)) (.int .i64 (sm m.ul n))
   have ca:∀q,Calls Tryz.prog 158 #[.pointer (some ⟨B,o+4,none⟩),.int .i64 n] (w.drewN q) fun e w'=>e=.returned (.tuple #[])∧MStep B o (m.units n) w w':=fun q =>
    (add_any B (o+4) _ _ n (w.drewN q) h.ua h.ul (h.fz _) (h.fz _)).mono fun e w' ⟨he,hw⟩=>⟨he,by subst hw;exact (MStep.drewN ⟨p2,s2,hu⟩ q).drew⟩
   simp only [Bool.false_eq_true,if_false];clear hp
   go_enter Tryz.func148,Tryz.ntmps148
   go_wp2_with (first
    | (go_at_call 168;refine c.mono ?_;rintro e w' ⟨rfl,q,rfl⟩)
    | (go_at_call 158;refine (ca q).mono ?_;rintro e w' ⟨rfl,hu2⟩))
   go_end0
   exact⟨.back,hu2⟩
  ·rw [hp] at c
   simp only [if_true];clear hp
   go_enter Tryz.func148,Tryz.ntmps148
   go_wp2_with (first
    | (go_at_call 168;refine c.mono ?_;rintro e w' ⟨rfl,q,rfl⟩)
    | (go_at_call 83;refine (raise_err _ _).mono ?_;rintro e w' ⟨rfl,rfl⟩))
   exact⟨rfl,.raised 10 (by decide),h0.drewN q⟩
end meter
end Go.Proofs.YtdplhgpeggcmdaaGreatDoor
