/- Group: facts and laws for the walks. -/
import Derived.Test.YtdplhgpeggcmdaaGreatDoorTrapM
import Derived.Test.YtdplhgpeggcmdaaGreatDoorSplLess
import Derived.Test.YtdplhgpeggcmdaaGreatDoorSwarIter
import Derived.Deep.WholeRow
import Derived.Laws.CopyOwn
import Derived.RangeFuncOne
import Derived.Maps.OwnIn
namespace Go.Proofs.YtdplhgpeggcmdaaGreatDoor
set_option linter.unusedSimpArgs false
set_option linter.unusedVariables false
namespace group
open Go.ChangeShapes Go.WideShapes Go.ChangeAt Go.RowKit swar trap under meter
structure GAt(B o:Nat)(g:Gp)(w:World):Prop where
 word:w.cell? ⟨B,o,none⟩=some (.int .u64 (word g:Nat))
 key:∀i,i<8→w.cell? ⟨B,o+1+i*3,none⟩=some (.int .u64 ((g i).key:Nat))
 val:∀i,i<8→w.cell? ⟨B,o+1+i*3+1,none⟩=some (.int .u64 ((g i).val:Nat))
 hash:∀i,i<8→w.cell? ⟨B,o+1+i*3+2,none⟩=some (.int .u64 ((g i).hash:Nat))
 fz:∀i,w.frozen? ⟨B,i,none⟩=false
theorem GAt.lt{B o:Nat}{g:Gp}{w:World}(h:GAt B o g w):B<w.heap.size:=World.block_lt_of_cell? w _ h.word
theorem GAt.of_block{B o:Nat}{g:Gp}{w w':World}(h:GAt B o g w)(he:w'.heap[B]?=w.heap[B]?):GAt B o g w':=by
 have c:∀i v,w.cell? ⟨B,i,none⟩=some v→w'.cell? ⟨B,i,none⟩=some v:=fun i v hc=>(World.cell?_of_block (w:=w) he).trans hc
 exact⟨c _ _ h.word,fun i hi=>c _ _ (h.key i hi),fun i hi=>c _ _ (h.val i hi),fun i hi=>c _ _ (h.hash i hi),fun i=>(World.frozen?_of_block (w:=w) he).trans (h.fz i)⟩
theorem GAt.below{B o:Nat}{g:Gp}{w w':World}(h:GAt B o g w)(hb:Below w.heap.size w w'):GAt B o g w':=h.of_block (hb.block B h.lt)
theorem isFull_any(B o:Nat)(g:Gp)(i:Nat)(hi:i<8)(hg:g.Ok)(w:World)(h:GAt B o g w) :
  Calls Tryz.prog 164 #[.pointer (some ⟨B,o,none⟩),.int .i64 i] w fun e w'=>e=.returned (.bool (is 3 g i))∧w=w':=by
 have hw:=h.word
 have hb:decide (((byt (g i):Nat):Int)<128)=is 3 g i:=by
  unfold is;rw [decide_eq_decide,←byt_3 (hg i)];omega
 go_enter Tryz.func164,Tryz.ntmps164
 go_wp2_with (go_at_call 165;refine (ctrl.get_yes (group.word g) i (word_lt g) hi _).mono ?_;rintro e w' ⟨rfl,rfl⟩;rw [ln_word g hi])
 go_ret
 exact⟨by rw [←hb];simp,rfl⟩
theorem need_is(B o:Nat)(g:Gp)(i:Nat)(b:Bool)(hi:i<8)(hg:g.Ok)(w:World)(h:GAt B o g w)(st:Value)(hr:w.cell? ⟨2,0,none⟩=some st) :
  Calls Tryz.prog 138 #[.pointer (some ⟨B,o,none⟩),.int .i64 i,.bool b] w fun e w'=>e=.returned (if is 3 g i=b then .nilIface else st)∧w=w':=by
 have c:=isFull_any B o g i hi hg w h;have d1:decide ((i:Int)<0)=false:=decide_eq_false (by omega);have d2:decide (8≤(i:Int))=false:=decide_eq_false (by omega);generalize is 3 g i=u at c ⊢;cases u <;> cases b
 all_goals
  go_enter Tryz.func138,Tryz.ntmps138
  go_wp2_with (go_at_call 164;refine c.mono ?_;rintro e w' ⟨rfl,rfl⟩)
  go_ret
  exact⟨by simp,rfl⟩
abbrev entV(k v h:Nat):Value:=.agg #[.int .u64 (k:Nat),.int .u64 (v:Nat),.int .u64 (h:Nat)]
abbrev boxed(B o:Nat)(w:World):World:=w.alloc (.cells #[.pointer (some ⟨B,o,none⟩)] 104)
theorem box_below(B o:Nat)(w:World):Below w.heap.size w (boxed B o w):=new_block w _
theorem below_drewN'(w:World)(q:Nat):Below w.heap.size w (w.drewN q):=⟨rfl,rfl,rfl,Nat.le_refl _,fun _ _=>rfl⟩
theorem two_new(w:World)(o p:Obj):Below w.heap.size w ((w.alloc o).alloc p):=((Below.refl _ w).alloc (Nat.le_refl _) _).alloc (by simp) _
theorem at_is(B o:Nat)(g:Gp)(i:Nat)(hi:i<8)(hg:g.Ok)(w:World)(h:GAt B o g w)(x:Addr)(hr:w.cell? ⟨2,0,none⟩=some (errs.errV x)) :
  Calls Tryz.prog 139 #[.agg #[.pointer (some ⟨B,o,none⟩)],.int .i64 i] w fun e w'=>e=.returned (.tuple #[entV (g i).key (g i).val (g i).hash,.bool (is 3 g i)])∧Below w.heap.size w w':=by
 have c:=fun W (hb:Below w.heap.size w W)=>need_is B o g i true hi hg W (h.below hb) _ ((hb.cell (World.block_lt_of_cell? w _ hr)).trans hr)
 have hlt:=h.lt;have h1:=h.key i hi;have h2:=h.val i hi;have h3:=h.hash i hi;have hi':(i:Int)<8:=by omega
 cases hf:is 3 g i
 ·rw [hf] at c
  obtain⟨z1,z2,z3⟩:=(hg i).zero (of_decide_eq_false hf);rw [z1,z2,z3]
  go_enter Tryz.func139,Tryz.ntmps139
  go_wp2_with (go_at_call 138;refine (c _ (two_new w _ _)).mono ?_;rintro e w' ⟨rfl,rfl⟩)
  exact bodyPost_ret (v:=.tuple #[entV 0 0 0,.bool false]) (by simp [results,Tryz.results139,go_sem]) rfl ⟨rfl,two_new w _ _⟩
 ·rw [hf] at c
  go_enter Tryz.func139,Tryz.ntmps139
  go_wp2_with (go_at_call 138;refine (c _ (two_new w _ _)).mono ?_;rintro e w' ⟨rfl,rfl⟩)
  exact bodyPost_ret (v:=.tuple #[entV (g i).key (g i).val (g i).hash,.bool true]) (by simp [results,Tryz.results139,go_sem]) rfl ⟨rfl,two_new w _ _⟩
theorem free_any(B o:Nat)(g:Gp)(hg:g.Ok)(w:World)(h:GAt B o g w)(hT:TabOk w) :
  Calls Tryz.prog 97 #[.agg #[.pointer (some ⟨B,o,none⟩)]] w fun e w'=>e=.returned (.int .i64 (least g))∧Below w.heap.size w w':=by
 have hw:=h.word;have hlt:=h.lt;have c1:=ctrl.frees_any (group.word g) (word_lt g);have c2:=first_any (mkM fun k=>!is 3 g k) (mkM_lt _) (boxed B o w) (hT.below (box_below B o w) hT.lt);rw [m_frees hg] at c1;rw [first_mk] at c2
 go_enter Tryz.func97,Tryz.ntmps97
 go_wp2_with (first
  | (go_at_call 132;refine (c1 _).mono ?_;rintro e w' ⟨rfl,rfl⟩)
  | (go_at_call 131;refine c2.mono ?_;rintro e w' ⟨rfl,rfl⟩))
 go_ret
 exact⟨rfl,box_below B o w⟩
theorem open_any(B o:Nat)(g:Gp)(hg:g.Ok)(w:World)(h:GAt B o g w) :
  Calls Tryz.prog 98 #[.agg #[.pointer (some ⟨B,o,none⟩)]] w fun e w'=>e=.returned (.bool (opens g))∧Below w.heap.size w w':=by
 have hw:=h.word;have hlt:=h.lt;have c1:=ctrl.empties_any (group.word g) (word_lt g);rw [m_empties hg] at c1
 have e:(((mkM (is 1 g):Nat):Int) != 0)=opens g:=by
  have h:=mk_zero (is 1 g);unfold opens;generalize (is 1 g 0||is 1 g 1||is 1 g 2||is 1 g 3||is 1 g 4||is 1 g 5||is 1 g 6||is 1 g 7)=b at h ⊢;cases b
  ·rw [h.2 rfl];rfl
  ·rw [bne_iff_ne];intro h0
   exact absurd (h.1 (by omega)) (by decide)
 go_enter Tryz.func98,Tryz.ntmps98
 go_wp2_with (go_at_call 133;refine (c1 _).mono ?_;rintro e w' ⟨rfl,rfl⟩)
 go_ret
 exact⟨rfl,box_below B o w⟩
end group
namespace group
open Go.ChangeShapes Go.WideShapes Go.ChangeAt Go.RowKit swar trap under meter tail
structure GStep(B o:Nat)(g:Gp)(w w':World):Prop where
 past:Past [B] w w'
 side:Beside B o 25 w w'
 at':GAt B o g w'
theorem GStep.of{B o:Nat}{g:Gp}{w w':World}(h:GAt B o g w)(hb:Below w.heap.size w w'):GStep B o g w w':=⟨Past.of hb,Beside.of_block (hb.block B h.lt),h.below hb⟩
theorem GStep.trans{B o:Nat}{g g':Gp}{x y z:World}(h:GStep B o g x y)(k:GStep B o g' y z):GStep B o g' x z:=⟨h.past.trans k.past,h.side.trans k.side,k.at'⟩
theorem GStep.below{B o:Nat}{g:Gp}{x y z:World}(h:GStep B o g x y)(k:Below y.heap.size y z):GStep B o g x z:=h.trans (.of h.at' k)
structure GPut(B o i:Nat)(n k v h:Nat)(x w:World):Prop where
 past:Past [B] x w
 side:Beside B o 25 x w
 wd:w.cell? ⟨B,o,none⟩=some (.int .u64 (n:Nat))
 ky:w.cell? ⟨B,o+1+i*3,none⟩=some (.int .u64 (k:Nat))
 vl:w.cell? ⟨B,o+1+i*3+1,none⟩=some (.int .u64 (v:Nat))
 hs:w.cell? ⟨B,o+1+i*3+2,none⟩=some (.int .u64 (h:Nat))
 rest:∀j,j<8→j≠i→∀d,d<3→w.cell? ⟨B,o+1+j*3+d,none⟩=x.cell? ⟨B,o+1+j*3+d,none⟩
theorem GPut.step{B o i:Nat}{g:Gp}{s:Sl}{x w:World}(hi:i<8)(hx:GAt B o g x)(p:GPut B o i (word (g.put i s)) s.key s.val s.hash x w):GStep B o (g.put i s) x w:=by
 refine⟨p.past,p.side,p.wd,fun j hj=>?_,fun j hj=>?_,fun j hj=>?_,fun j=>?_⟩
 ·by_cases e:j=i
  ·subst e;rw [put_same];exact p.ky
  ·rw [put_ne g s e];exact (p.rest j hj e 0 (by decide)).trans (hx.key j hj)
 ·by_cases e:j=i
  ·subst e;rw [put_same];exact p.vl
  ·rw [put_ne g s e];exact (p.rest j hj e 1 (by decide)).trans (hx.val j hj)
 ·by_cases e:j=i
  ·subst e;rw [put_same];exact p.hs
  ·rw [put_ne g s e];exact (p.rest j hj e 2 (by decide)).trans (hx.hash j hj)
 ·rw [p.side.frozen];exact hx.fz j
theorem off_ne{B a b:Nat}(h:a≠b):(⟨B,a,none⟩:Addr)≠⟨B,b,none⟩:=by intro e;injection e with _ e _;exact h e
theorem GPut.stores{B o i:Nat}{g:Gp}{x w1:World}(hi:i<8)(hx:GAt B o g x)(hb:Below x.heap.size x w1)(n k v h m:Nat) :
  GPut B o i n k v h x (((((w1.setCell ⟨B,o,none⟩ (.int .u64 (n:Nat))).drewN m).setCell ⟨B,o+1+i*3,none⟩ (.int .u64 (k:Nat))).setCell ⟨B,o+1+i*3+1,none⟩ (.int .u64 (v:Nat))).setCell ⟨B,o+1+i*3+2,none⟩ (.int .u64 (h:Nat))):=by
 have hw:=hx.below hb;have e0:=hw.word;have e1:=hw.key i hi;have e2:=hw.val i hi;have e3:=hw.hash i hi;have p1:Past [B] x (w1.setCell ⟨B,o,none⟩ (.int .u64 (n:Nat))):=(Past.of (d:=[B]) hb).store (.inl (by simp)) _;have s1:Beside B o 25 x (w1.setCell ⟨B,o,none⟩ (.int .u64 (n:Nat))):=(Beside.of_block (hb.block B hx.lt)).store o (by omega) (by omega) _;have c1:∀j,j≠o→(w1.setCell ⟨B,o,none⟩ (.int .u64 (n:Nat))).cell? ⟨B,j,none⟩=w1.cell? ⟨B,j,none⟩:=fun j hj=>World.cell?_setCell_other _ _ _ _ (off_ne (Ne.symm hj))
 have c0:(w1.setCell ⟨B,o,none⟩ (.int .u64 (n:Nat))).cell? ⟨B,o,none⟩=some (.int .u64 (n:Nat)):=World.cell?_setCell_same' _ _ _ (by rw [e0];rfl);have p2:=p1.drewN m;have s2:Beside B o 25 x ((w1.setCell ⟨B,o,none⟩ (.int .u64 (n:Nat))).drewN m):=⟨s1.cells,s1.frozen⟩;have c2:∀j,((w1.setCell ⟨B,o,none⟩ (.int .u64 (n:Nat))).drewN m).cell? ⟨B,j,none⟩=(w1.setCell ⟨B,o,none⟩ (.int .u64 (n:Nat))).cell? ⟨B,j,none⟩:=fun j=>rfl
 generalize (w1.setCell ⟨B,o,none⟩ (.int .u64 (n:Nat))).drewN m=w2 at p2 s2 c2 ⊢;have d0:=(c2 o).trans c0;have d1:∀j,j≠o→w2.cell? ⟨B,j,none⟩=w1.cell? ⟨B,j,none⟩:=fun j hj=>(c2 j).trans (c1 j hj)
 refine⟨((p2.store (.inl (by simp)) _).store (.inl (by simp)) _).store (.inl (by simp)) _,((s2.store _ (by omega) (by omega) _).store _ (by omega) (by omega) _).store _ (by omega) (by omega) _, ?_, ?_, ?_, ?_, ?_⟩
 ·rw [World.cell?_setCell_other _ _ _ _ (off_ne (by omega)),World.cell?_setCell_other _ _ _ _ (off_ne (by omega)),World.cell?_setCell_other _ _ _ _ (off_ne (by omega))];exact d0
 ·rw [World.cell?_setCell_other _ _ _ _ (off_ne (by omega)),World.cell?_setCell_other _ _ _ _ (off_ne (by omega))]
  exact World.cell?_setCell_same' _ _ _ (by rw [d1 _ (by omega),e1];rfl)
 ·rw [World.cell?_setCell_other _ _ _ _ (off_ne (by omega))]
  exact World.cell?_setCell_same' _ _ _ (by rw [World.cell?_setCell_other _ _ _ _ (off_ne (by omega)),d1 _ (by omega),e2];rfl)
 ·exact World.cell?_setCell_same' _ _ _ (by rw [World.cell?_setCell_other _ _ _ _ (off_ne (by omega)),World.cell?_setCell_other _ _ _ _ (off_ne (by omega)),d1 _ (by omega),e3];rfl)
 ·intro j hj hne d hd
  rw [World.cell?_setCell_other _ _ _ _ (off_ne (by omega)),World.cell?_setCell_other _ _ _ _ (off_ne (by omega)),World.cell?_setCell_other _ _ _ _ (off_ne (by omega)),d1 _ (by omega)];exact World.cell?_of_block (hb.block B hx.lt)
theorem must_nil(v:Int)(w:World):Calls Tryz.prog 181 #[.int .u64 v,.nilIface] w fun e w'=>e=.returned (.int .u64 v)∧w=w':=by
 go_enter Tryz.func181,Tryz.ntmps181
 go_wp2_with (go_at_call 83;refine (raise_nil _).mono ?_;rintro e w' ⟨rfl,rfl⟩)
 go_ret
 exact⟨rfl,rfl⟩
theorem set_any(B o:Nat)(g:Gp)(i:Nat)(s:Sl)(hi:i<8)(w:World)(h:GAt B o g w) :
  Calls Tryz.prog 166 #[.pointer (some ⟨B,o,none⟩),.int .i64 i,.int .u8 (byt s:Nat),entV s.key s.val s.hash] w fun e w'=>e=.returned (.tuple #[])∧GStep B o (g.put i s) w w':=by
 have hw:=h.word;have hlt:=h.lt;have h1:=h.key i hi;have h2:=h.val i hi;have h3:=h.hash i hi;have hf:=h.fz;have hi':(i:Int)<8:=by omega
 have c:=ctrl.set_yes (group.word g) (byt s) i (word_lt g) hi (byt_ok s);rw [word_put g hi s] at c;generalize byt s=bs at c;generalize hn:group.word (g.put i s)=n at c
 go_enter Tryz.func166,Tryz.ntmps166
 go_wp2_with (first
  | (go_at_call 182;refine (c _).mono ?_;rintro e w' ⟨rfl,q,rfl⟩)
  | (go_at_call 181;refine (must_nil _ _).mono ?_;rintro e w' ⟨rfl,rfl⟩))
 refine wp_region_tail_drew 6 (by kernel_rfl) (by kernel_rfl) ?_;simp only [List.take_succ_cons,List.take_zero,List.drop_succ_cons,List.drop_zero]
 repeat (quiet_step (fail))
 refine wpQuiet_nil ?_;intro w4 hw4;obtain⟨n4,rfl⟩:=hw4;go_wp2
 go_end0
 refine⟨rfl, ?_⟩;subst hn;exact GPut.step hi h (GPut.stores hi h (under.below_step (new_block w _) (below_drewN' _ q)) _ _ _ _ n4)
theorem h2_q(h:Nat)(hh:h<18446744073709551616)(w:World):Calls Tryz.prog 136 #[.int .u64 h] w fun e w'=>e=.returned (.int .u8 ((h%128:Nat):Int))∧w'=w:=(split.h2_any h hh w).mono fun e w' ⟨he,hw⟩=>⟨he,hw.symm⟩
theorem put_free(B o:Nat)(g:Gp)(i k v h:Nat)(hh:h<18446744073709551616)(hi:i<8)(hg:g.Ok)(hf:is 3 g i=false)(w:World)(ha:GAt B o g w)(x:Addr)(hr:w.cell? ⟨2,0,none⟩=some (errs.errV x)) :
  Calls Tryz.prog 142 #[.agg #[.pointer (some ⟨B,o,none⟩)],.int .i64 i,entV k v h] w fun e w'=>e=.returned (.tuple #[.bool (is 2 g i),.nilIface])∧GStep B o (g.put i ⟨3,k,v,h⟩) w w':=by
 have c:=fun W (hb:Below w.heap.size w W)=>need_is B o g i false hi hg W (ha.below hb) _ ((hb.cell (World.block_lt_of_cell? w _ hr)).trans hr)
 rw [hf] at c;have hw:=ha.word;have hlt:=ha.lt
 have b2:(((byt (g i):Nat):Int)==254)=is 2 g i:=by
  unfold is;rw [Bool.eq_iff_iff,decide_eq_true_eq,beq_iff_eq,←byt_2 (hg i)];omega
 have cs:=fun W (hb:Below w.heap.size w W)=>set_any B o g i ⟨3,k,v,h⟩ hi W (ha.below hb)
 rw [show byt ⟨3,k,v,h⟩=h%128 from rfl] at cs;generalize g.put i ⟨3,k,v,h⟩=g' at cs ⊢
 go_enter Tryz.func142,Tryz.ntmps142
 go_wp2_with (first
  | (go_at_call 138;refine (c _ (two_new w _ _)).mono ?_;rintro e w' ⟨rfl,rfl⟩)
  | (go_at_call 165;refine (ctrl.get_yes (group.word g) i (word_lt g) hi _).mono ?_;rintro e w' ⟨rfl,rfl⟩;rw [ln_word g hi]))
 refine wp_region_tail_drew 7 (by kernel_rfl) (by kernel_rfl) ?_;simp only [List.take_succ_cons,List.take_zero,List.drop_succ_cons,List.drop_zero]
 repeat (quiet_step ((go_at_call 136;exact Calls.quiet_of_same (h2_q _ hh _))))
 refine wpQuiet_nil ?_;intro w4 hw4;obtain⟨n4,rfl⟩:=hw4
 go_wp2_with (go_at_call 166;refine (cs _ (under.below_step (two_new w _ _) (below_drewN' _ n4))).mono ?_;rintro e w' ⟨rfl,hs⟩)
 go_ret2
 exact⟨rfl,(GStep.of ha (under.below_step (two_new w _ _) (below_drewN' _ n4))).trans hs⟩
theorem GStep.val{B o i:Nat}{g:Gp}{x w1:World}(hi:i<8)(hf:is 3 g i=true)(hx:GAt B o g x)(hb:Below x.heap.size x w1)(v:Nat) :
  GStep B o (g.put i { g i with val:=v }) x (w1.setCell ⟨B,o+1+i*3+1,none⟩ (.int .u64 (v:Nat))):=by
 have hw:=hx.below hb;have e0:=hw.word;have e1:=hw.key i hi;have e2:=hw.val i hi;have e3:=hw.hash i hi;have p1:Past [B] x (w1.setCell ⟨B,o+1+i*3+1,none⟩ (.int .u64 (v:Nat))):=(Past.of (d:=[B]) hb).store (.inl (by simp)) _;have s1:Beside B o 25 x (w1.setCell ⟨B,o+1+i*3+1,none⟩ (.int .u64 (v:Nat))):=(Beside.of_block (hb.block B hx.lt)).store _ (by omega) (by omega) _;have c1:∀j,j≠o+1+i*3+1→(w1.setCell ⟨B,o+1+i*3+1,none⟩ (.int .u64 (v:Nat))).cell? ⟨B,j,none⟩=w1.cell? ⟨B,j,none⟩:=fun j hj=>World.cell?_setCell_other _ _ _ _ (off_ne (Ne.symm hj))
 refine GPut.step hi hx ⟨p1,s1, ?_, ?_, ?_, ?_,fun j hj hne d hd=>?_⟩
 ·rw [c1 _ (by omega),e0]
  have e:word (g.put i { g i with val:=v })=word g:=by
   rw [←word_put g hi];have:=word_put g hi (g i);rw [show byt { g i with val:=v }=byt (g i) from rfl,this]
   congr 1;funext j;unfold Gp.put;split
   ·next h=>rw [h]
   ·rfl
  rw [e]
 ·rw [c1 _ (by omega),e1]
 ·exact World.cell?_setCell_same' _ _ _ (by rw [e2];rfl)
 ·rw [c1 _ (by omega),e3]
 ·rw [c1 _ (by omega)];exact World.cell?_of_block (hb.block B hx.lt)
theorem val_full(B o:Nat)(g:Gp)(i v:Nat)(hi:i<8)(hg:g.Ok)(hf:is 3 g i=true)(w:World)(ha:GAt B o g w)(x:Addr)(hr:w.cell? ⟨2,0,none⟩=some (errs.errV x)) :
  Calls Tryz.prog 101 #[.agg #[.pointer (some ⟨B,o,none⟩)],.int .i64 i,.int .u64 v] w fun e w'=>e=.returned .nilIface∧GStep B o (g.put i { g i with val:=v }) w w':=by
 have c:=fun W (hb:Below w.heap.size w W)=>need_is B o g i true hi hg W (ha.below hb) _ ((hb.cell (World.block_lt_of_cell? w _ hr)).trans hr)
 rw [hf] at c;have hlt:=ha.lt;have h1:=ha.key i hi;have h2:=ha.val i hi;have h3:=ha.hash i hi;have hfz:=ha.fz;have hi':(i:Int)<8:=by omega
 have hs:=(GStep.val hi hf ha (Below.refl _ w) v).below (new_block _ (.cells #[.pointer (some ⟨B,o,none⟩)] 104));generalize g.put i { g i with val:=v }=g' at hs ⊢
 go_enter Tryz.func101,Tryz.ntmps101
 go_wp2_with (go_at_call 138;refine (c _ (new_block w _)).mono ?_;rintro e w' ⟨rfl,rfl⟩)
 go_ret
 exact⟨rfl,hs⟩
theorem erase_full(B o:Nat)(g:Gp)(i:Nat)(hi:i<8)(hg:g.Ok)(hf:is 3 g i=true)(w:World)(ha:GAt B o g w)(x:Addr)(hr:w.cell? ⟨2,0,none⟩=some (errs.errV x)) :
  Calls Tryz.prog 193 #[.agg #[.pointer (some ⟨B,o,none⟩)],.int .i64 i] w fun e w'=>e=.returned (.tuple #[.bool (!opens g),.nilIface])∧GStep B o (g.put i (erased g)) w w':=by
 have c:=fun W (hb:Below w.heap.size w W)=>need_is B o g i true hi hg W (ha.below hb) _ ((hb.cell (World.block_lt_of_cell? w _ hr)).trans hr)
 rw [hf] at c;have hlt:=ha.lt;have co:=fun W (hb:Below w.heap.size w W)=>open_any B o g hg W (ha.below hb)
 cases ho:opens g
 ·have cs:=fun W (hb:Below w.heap.size w W)=>set_any B o g i .gone hi W (ha.below hb)
  rw [show byt .gone=254 from rfl,show Sl.gone.key=0 from rfl,show Sl.gone.val=0 from rfl,show Sl.gone.hash=0 from rfl] at cs;rw [ho] at co;rw [show erased g=.gone from by unfold erased;rw [ho];rfl];generalize g.put i .gone=g' at cs ⊢
  go_enter Tryz.func193,Tryz.ntmps193
  go_wp2_with (first
   | (go_at_call 138;refine (c _ (new_block w _)).mono ?_;rintro e w' ⟨rfl,rfl⟩)
   | (go_at_call 98;refine (co _ (new_block w _)).mono ?_;rintro e w1 ⟨rfl,hb1⟩;have hb2:=under.below_step (new_block w _) hb1;have hc1:=hb1.cell (p:=⟨w.heap.size,0,none⟩) (by simp))
   | (go_at_call 166;refine (cs _ (by first|exact hb2|exact under.below_step hb2 (new_block _ _))).mono ?_;rintro e w' ⟨rfl,hs⟩))
  go_ret2
  exact⟨rfl,(GStep.of ha hb2).trans hs⟩
 ·have cs:=fun W (hb:Below w.heap.size w W)=>set_any B o g i .empty hi W (ha.below hb)
  rw [show byt .empty=128 from rfl,show Sl.empty.key=0 from rfl,show Sl.empty.val=0 from rfl,show Sl.empty.hash=0 from rfl] at cs;rw [ho] at co;rw [show erased g=.empty from by unfold erased;rw [ho];rfl];generalize g.put i .empty=g' at cs ⊢
  go_enter Tryz.func193,Tryz.ntmps193
  go_wp2_with (first
   | (go_at_call 138;refine (c _ (new_block w _)).mono ?_;rintro e w' ⟨rfl,rfl⟩)
   | (go_at_call 98;refine (co _ (new_block w _)).mono ?_;rintro e w1 ⟨rfl,hb1⟩;have hb2:=under.below_step (new_block w _) hb1;have hc1:=hb1.cell (p:=⟨w.heap.size,0,none⟩) (by simp))
   | (go_at_call 166;refine (cs _ (by first|exact hb2|exact under.below_step hb2 (new_block _ _))).mono ?_;rintro e w' ⟨rfl,hs⟩))
  go_ret2
  exact⟨rfl,(GStep.of ha hb2).trans hs⟩
def newRow:Array Value:=#[.int .u64 9259542123273814144,.int .u64 0,.int .u64 0,.int .u64 0,.int .u64 0,.int .u64 0,.int .u64 0,.int .u64 0,.int .u64 0,.int .u64 0,.int .u64 0,.int .u64 0,.int .u64 0,.int .u64 0,.int .u64 0,.int .u64 0,.int .u64 0,.int .u64 0,.int .u64 0,.int .u64 0,.int .u64 0,.int .u64 0,.int .u64 0,.int .u64 0,.int .u64 0]
set_option maxRecDepth 20000 in
theorem new_any(w:World):Calls Tryz.prog 126 #[] w fun e w'=>e=.returned (.pointer (some ⟨w.heap.size,0,none⟩))∧w'=w.alloc (.cells newRow 168):=by
 go_enter Tryz.func126,Tryz.ntmps126
 go_wp2_with (go_at_call 155;refine (ctrl.new_any _).mono ?_;rintro e w' ⟨rfl,rfl⟩)
 go_ret
 exact⟨rfl,rfl⟩
def fills(B o:Nat):List Value→Nat→World→World
 | [],_,w=>w
 | v::r,k,w=>fills B o r (k+1) (w.setCell ⟨B,o+k,none⟩ v)
theorem fills_past{B o:Nat}{x:World}:∀(l:List Value) (k:Nat) (w:World),Past [B] x w→Past [B] x (fills B o l k w)
 | [],_,_,h=>h
 | v::r,k,w,h=>fills_past r (k+1) _ (h.store (.inl (by simp)) v)
theorem fills_side{B o n:Nat}{x:World}:∀(l:List Value) (k:Nat) (w:World),k+l.length≤n→Beside B o n x w→Beside B o n x (fills B o l k w)
 | [],_,_,_,h=>h
 | v::r,k,w,hk,h=>fills_side r (k+1) _ (by simp at hk;omega) (h.store (o+k) (by omega) (by simp at hk;omega) v)
theorem fills_other{B o:Nat}:∀(l:List Value) (k:Nat) (w:World) (j:Nat),(j<o+k∨o+k+l.length≤j)→(fills B o l k w).cell? ⟨B,j,none⟩=w.cell? ⟨B,j,none⟩
 | [],_,_,_,_=>rfl
 | v::r,k,w,j,h=>by
  rw [fills,fills_other r (k+1) _ j (by simp at h;omega),World.cell?_setCell_other _ _ _ _ (off_ne (by simp at h;omega))]
theorem fills_at{B o:Nat}:∀(l:List Value) (k:Nat) (w:World) (j:Nat) (v:Value),l[j]?=some v→(∀i,i<k+l.length→(w.cell? ⟨B,o+i,none⟩).isSome=true)→(fills B o l k w).cell? ⟨B,o+k+j,none⟩=some v
 | u::r,k,w,0,v,h,hs=>by
  simp only [List.getElem?_cons_zero,Option.some.injEq] at h;subst h;rw [fills,fills_other r (k+1) _ _ (by omega)];exact World.cell?_setCell_same' _ _ _ (hs k (by simp))
 | u::r,k,w,j+1,v,h,hs=>by
  rw [List.getElem?_cons_succ] at h;rw [fills,show o+k+(j+1)=o+(k+1)+j by omega];refine fills_at r (k+1) _ j v h fun i hi=>?_
  by_cases e:i=k
  ·subst e;rw [World.cell?_setCell_same' _ _ _ (hs i (by simp))];rfl
  ·rw [World.cell?_setCell_other _ _ _ _ (off_ne (by omega))];exact hs i (by simp at hi ⊢;omega)
structure Room(B o:Nat)(w:World):Prop where
 cells:∀i,i<25→(w.cell? ⟨B,o+i,none⟩).isSome=true
 fz:∀i,w.frozen? ⟨B,i,none⟩=false
theorem Room.lt{B o:Nat}{w:World}(h:Room B o w):B<w.heap.size:=by
 have h0:=h.cells 0 (by decide);obtain⟨v,hv⟩:=Option.isSome_iff_exists.1 h0;exact World.block_lt_of_cell? w _ hv
theorem off25{i:Nat}(h:i<25):i=0∨∃j d,j<8∧d<3∧i=1+j*3+d:=by
 rcases Nat.eq_zero_or_pos i with e|e
 ·exact .inl e
 ·exact .inr ⟨(i-1)/3,(i-1)%3,by omega,by omega,by omega⟩
theorem GAt.room{B o:Nat}{g:Gp}{w:World}(h:GAt B o g w):Room B o w:=by
 refine⟨fun i hi=>?_,h.fz⟩
 rcases off25 hi with rfl|⟨j,d,hj,hd,rfl⟩
 ·rw [show o+0=o from rfl,h.word];rfl
 ·rcases (show d=0∨d=1∨d=2 by omega) with rfl|rfl|rfl
  ·rw [show o+(1+j*3+0)=o+1+j*3 by omega,h.key j hj];rfl
  ·rw [show o+(1+j*3+1)=o+1+j*3+1 by omega,h.val j hj];rfl
  ·rw [show o+(1+j*3+2)=o+1+j*3+2 by omega,h.hash j hj];rfl
theorem newRow_zero:∀i,i<25→i≠0→newRow.toList[i]?=some (.int .u64 0):=by
 intro i hi h0;have h:i=1∨i=2∨i=3∨i=4∨i=5∨i=6∨i=7∨i=8∨i=9∨i=10∨i=11∨i=12∨i=13∨i=14∨i=15∨i=16∨i=17∨i=18∨i=19∨i=20∨i=21∨i=22∨i=23∨i=24:=by omega
 rcases h with rfl|rfl|rfl|rfl|rfl|rfl|rfl|rfl|rfl|rfl|rfl|rfl|rfl|rfl|rfl|rfl|rfl|rfl|rfl|rfl|rfl|rfl|rfl|rfl <;> rfl
theorem GAt.of_new{B o:Nat}{w:World}(h:∀i,i<25→w.cell? ⟨B,o+i,none⟩=newRow.toList[i]?)(fz:∀i,w.frozen? ⟨B,i,none⟩=false):GAt B o .new w:=by
 have z:∀i,i<8→∀d,d<3→w.cell? ⟨B,o+1+i*3+d,none⟩=some (.int .u64 0):=fun i hi d hd=>by
  rw [show o+1+i*3+d=o+(1+i*3+d) by omega,h _ (by omega)];exact newRow_zero _ (by omega) (by omega)
 exact⟨h 0 (by decide),fun i hi=>z i hi 0 (by decide),fun i hi=>z i hi 1 (by decide),fun i hi=>z i hi 2 (by decide),fz⟩
theorem Room.clear{B o:Nat}{x:World}(h:Room B o x):GStep B o .new x (fills B o newRow.toList 0 x):=by
 have s:Beside B o 25 x (fills B o newRow.toList 0 x):=fills_side newRow.toList 0 x (by decide) (Beside.refl _ _ _ _);refine⟨fills_past _ _ _ (Past.refl _ _),s,GAt.of_new (fun i hi=>?_) fun i=>by rw [s.frozen];exact h.fz i⟩;obtain⟨v,hv⟩:∃v,newRow.toList[i]?=some v:=⟨_,List.getElem?_eq_getElem (show i<newRow.toList.length from hi)⟩;rw [hv];have e:=fills_at (B:=B) (o:=o) newRow.toList 0 x i v hv fun j hj=>h.cells j (by simpa [newRow] using hj)
 simpa using e
theorem fills_set(B o:Nat):∀(l:List Value) (k:Nat) (w:World),w.setCells B (o+k) l=fills B o l k w
 | [],_,_=>rfl
 | v::r,k,w=>fills_set B o r (k+1) (w.setCell ⟨B,o+k,none⟩ v)
theorem newRow_one:∀v∈newRow.toList,v.oneCell'=true:=by
 intro v hv;simp only [newRow,List.mem_cons,List.not_mem_nil,or_false] at hv
 rcases hv with rfl|hv
 ·rfl
 ·have : v=.int .u64 0:=by simpa using hv
  subst this;rfl
theorem wp_store_fills{P:Program}{oo:Oper}{a:Act}{w:World}{K:Act→World→Prop}{Q:Exit→Act→World→Prop}{B o:Nat}(ty:TypeId)(x y:Operand)(ho:oo.op=.store ty x y)
  (hx:a.eval x=.pointer (some ⟨B,o,none⟩))(hy:a.eval y=.agg newRow)(hi:(P.info? ty).map (·.size)=some newRow.size)(hR:Room B o w)
  (h:K (a.put oo.dst undef) (fills B o newRow.toList 0 w)):oo.wp P a w K Q:=by
 have hst:(storeVar ty ⟨B,o,none⟩ (.agg newRow)).run P w=.ok () (fills B o newRow.toList 0 w):=by
  have h1:=run_storeCells_cells (P:=P) B o newRow.toList 0 w (fun j hj=>hR.cells j hj) (fun j _=>hR.fz _) newRow_one;rw [fills_set] at h1;cases hq:P.info? ty with
  | none=>simp [hq] at hi
  | some i =>
   have hs:newRow.size=i.size:=by simp [hq] at hi;omega
   simpa [storeVar,sizeOf,typeInfo,hq,Value.cells,hs] using h1
 unfold Oper.wp execOp;simp only [ho,hx,hy,Instr.storeAt,Instr.sureAddr,Sem.run_bind,Sem.run_pure,Result.andThen_ok,hst];exact h
theorem Room.below{B o:Nat}{w w':World}(h:Room B o w)(hb:Below w.heap.size w w'):Room B o w':=
 ⟨fun i hi=>by rw [World.cell?_of_block (w:=w) (hb.block B h.lt)];exact h.cells i hi,fun i=>(World.frozen?_of_block (w:=w) (hb.block B h.lt)).trans (h.fz i)⟩
set_option maxRecDepth 20000 in
set_option maxHeartbeats 1000000 in
theorem clear_any(B o:Nat)(w:World)(h:Room B o w) :
  Calls Tryz.prog 86 #[.agg #[.pointer (some ⟨B,o,none⟩)]] w fun e w'=>e=.returned (.tuple #[])∧GStep B o .new w w':=by
 have hlt:=h.lt
 have c:∀W,W=(w.alloc (.cells #[.pointer (some ⟨B,o,none⟩)] 104)).drew→W.cell? ⟨w.heap.size,0,none⟩=some (.pointer (some ⟨B,o,none⟩))∧Calls Tryz.prog 126 #[] W fun e w'=>e=.returned (.pointer (some ⟨w.heap.size+1,0,none⟩))∧w'.heap[w.heap.size+1]?=some (.cells newRow 168 (0,0))∧w'.cell? ⟨w.heap.size,0,none⟩=some (.pointer (some ⟨B,o,none⟩))∧Room B o w'∧GStep B o .new w (fills B o newRow.toList 0 w'):=fun W hW=>by
  have hb:Below w.heap.size w W:=by rw [hW];exact (new_block w _).drew
  have hs:W.heap.size=w.heap.size+1:=by rw [hW];simp [World.drew]
  have hc:W.cell? ⟨w.heap.size,0,none⟩=some (.pointer (some ⟨B,o,none⟩)):=by rw [hW];simp [go_sem]
  clear hW;refine⟨hc,(new_any W).mono ?_⟩;rintro e w' ⟨rfl,rfl⟩;have hb2:Below w.heap.size w (W.alloc (.cells newRow 168)):=under.below_step hb (new_block W _);have hR:=h.below hb2;refine⟨by rw [hs],by rw [←hs];exact World.alloc_heap_new W _, ?_,hR, ?_⟩
  ·rw [World.cell?_of_block (w:=W) (Below.heap_alloc W _ _ (show w.heap.size<W.heap.size by omega))];exact hc
  ·have s:=hR.clear
   exact⟨(Past.of hb2).trans s.past,(Beside.of_block (hb2.block B hlt)).trans s.side,s.at'⟩
 go_enter Tryz.func86,Tryz.ntmps86
 go_wp2;refine wp_region_any (by kernel_rfl) ?_;obtain⟨W0,hW⟩:∃W0,(w.alloc (.cells #[.pointer (some ⟨B,o,none⟩)] 104)).drew=W0:=⟨_,rfl⟩;show wpAny _ _ _ _ _ _ _ (w.alloc (.cells #[.pointer (some ⟨B,o,none⟩)] 104)).drew;rw [hW];obtain⟨hc0,c⟩:=c _ hW.symm;clear hW;refine wpAny_take (i:=0) (v:=.pointer (some ⟨w.heap.size,0,none⟩)) rfl (by kernel_rfl) (by kernel_rfl) (by kernel_rfl) (fun _ _ _ h=>h) (Or.inl ⟨by rfl,fun wx=>by go_simp⟩) ?_;refine wpAny_ready (rs:=[1,2]) (by kernel_rfl) (by simp) ?_;refine AllReady.cons rfl (fun K hK=>?_) ?_;go_simp;refine hK _ _ ?_;clear hK K
 ·refine wpAny_ready (rs:=[2]) (by kernel_rfl) (by simp) ?_
  refine AllReady.cons rfl (fun K hK=>?_) AllReady.nil;go_simp;refine c.mono ?_;rintro e w' ⟨rfl,hrow,hc,hR,hG⟩;refine hK _ _ ?_;clear hK K;refine wpAny_take (i:=3) (v:=.pointer (some ⟨w.heap.size+1,0,none⟩)) rfl (by kernel_rfl) (by kernel_rfl) (by kernel_rfl) (fun _ _ _ h=>h) (Or.inl ⟨by rfl,fun wx=>by go_simp⟩) ?_;refine wpAny_ready (rs:=[4]) (by kernel_rfl) (by simp) ?_;refine AllReady.cons rfl (fun K hK=>?_) AllReady.nil;rw [if_pos (by rfl)];refine wp_load_row 168 (.tmp 5) rfl (w.heap.size+1) rfl 168 newRow (0,0) _ hrow Tryz.underlying168 rfl (by kernel_rfl) ?_;refine hK _ _ ?_;clear hK K;refine wpAny_take (i:=5) (v:=.pointer (some ⟨B,o,none⟩)) rfl (by kernel_rfl) (by kernel_rfl) (by kernel_rfl) (fun _ _ _ h=>h) (Or.inl ⟨by rfl,fun wx=>by go_simp⟩) ?_;refine wpAny_ready (rs:=[6]) (by kernel_rfl) (by simp) ?_;refine AllReady.cons rfl (fun K hK=>?_) AllReady.nil;rw [if_pos (by rfl)];refine wp_store_fills 168 (.tmp 7) (.tmp 6) rfl rfl rfl (by kernel_rfl) hR ?_;refine hK _ _ ?_;clear hK K;refine wpAny_done (by kernel_rfl) ?_ _;go_wp2;go_end0;exact⟨rfl,hG⟩
 ·refine AllReady.cons rfl (fun K hK=>?_) AllReady.nil
  go_simp;refine c.mono ?_;rintro e w' ⟨rfl,hrow,hc,hR,hG⟩;refine hK _ _ ?_;clear hK K;refine wpAny_take (i:=3) (v:=.pointer (some ⟨w.heap.size+1,0,none⟩)) rfl (by kernel_rfl) (by kernel_rfl) (by kernel_rfl) (fun _ _ _ h=>h) (Or.inl ⟨by rfl,fun wx=>by go_simp⟩) ?_;refine wpAny_ready (rs:=[1,4]) (by kernel_rfl) (by simp) ?_;refine AllReady.cons rfl (fun K hK=>?_) ?_;go_simp;refine hK _ _ ?_;clear hK K
  ·refine wpAny_ready (rs:=[4]) (by kernel_rfl) (by simp) ?_
   refine AllReady.cons rfl (fun K hK=>?_) AllReady.nil;rw [if_pos (by rfl)];refine wp_load_row 168 (.tmp 5) rfl (w.heap.size+1) rfl 168 newRow (0,0) _ hrow Tryz.underlying168 rfl (by kernel_rfl) ?_;refine hK _ _ ?_;clear hK K;refine wpAny_take (i:=5) (v:=.pointer (some ⟨B,o,none⟩)) rfl (by kernel_rfl) (by kernel_rfl) (by kernel_rfl) (fun _ _ _ h=>h) (Or.inl ⟨by rfl,fun wx=>by go_simp⟩) ?_;refine wpAny_ready (rs:=[6]) (by kernel_rfl) (by simp) ?_;refine AllReady.cons rfl (fun K hK=>?_) AllReady.nil;rw [if_pos (by rfl)];refine wp_store_fills 168 (.tmp 7) (.tmp 6) rfl rfl rfl (by kernel_rfl) hR ?_;refine hK _ _ ?_;clear hK K;refine wpAny_done (by kernel_rfl) ?_ _;go_wp2;go_end0;exact⟨rfl,hG⟩
  ·refine AllReady.cons rfl (fun K hK=>?_) AllReady.nil
   rw [if_pos (by rfl)];refine wp_load_row 168 (.tmp 5) rfl (w.heap.size+1) rfl 168 newRow (0,0) _ hrow Tryz.underlying168 rfl (by kernel_rfl) ?_;refine hK _ _ ?_;clear hK K;refine wpAny_ready (rs:=[1]) (by kernel_rfl) (by simp) ?_;refine AllReady.cons rfl (fun K hK=>?_) AllReady.nil;go_simp;refine hK _ _ ?_;clear hK K;refine wpAny_take (i:=5) (v:=.pointer (some ⟨B,o,none⟩)) rfl (by kernel_rfl) (by kernel_rfl) (by kernel_rfl) (fun _ _ _ h=>h) (Or.inl ⟨by rfl,fun wx=>by go_simp⟩) ?_;refine wpAny_ready (rs:=[6]) (by kernel_rfl) (by simp) ?_;refine AllReady.cons rfl (fun K hK=>?_) AllReady.nil;rw [if_pos (by rfl)];refine wp_store_fills 168 (.tmp 7) (.tmp 6) rfl rfl rfl (by kernel_rfl) hR ?_;refine hK _ _ ?_;clear hK K;refine wpAny_done (by kernel_rfl) ?_ _;go_wp2;go_end0;exact⟨rfl,hG⟩
end group
namespace group
open Go.ChangeShapes Go.WideShapes Go.ChangeAt Go.RowKit Go.Shelf swar trap under meter tail
attribute [local go_sem] Oper.semAt_some
theorem two_last(w:World)(o:Obj)(v:Value)(t:TypeId):((w.alloc o).alloc (.cells #[v] t)).cell? ⟨w.heap.size+1,0,none⟩=some v∧((w.alloc o).alloc (.cells #[v] t)).frozen? ⟨w.heap.size+1,0,none⟩=false:=by
 have e:(w.alloc o).heap.size=w.heap.size+1:=World.size_alloc _ _;have h:=Boxed.new (w.alloc o) t v;rw [e] at h;exact⟨h.cell,h.frozen⟩
theorem look_nil(B o:Nat)(w:World):Calls Tryz.prog 96 #[.pointer (some ⟨B,o,none⟩),.agg #[.pointer none]] w fun e w'=>e=.returned (.agg #[.pointer (some ⟨B,o,none⟩)])∧Below w.heap.size w w':=by
 have c:=fun W (hb:Below w.heap.size w W)=>visit_nil W
 obtain⟨l1,l2⟩:=two_last w (.cells #[.pointer none] 52) (.pointer none) 104
 go_enter Tryz.func96,Tryz.ntmps96
 go_wp2_with (go_at_call 130;refine (c _ (two_new w _ _)).mono ?_;rintro e w' ⟨rfl,hb⟩;have hc:=(hb.cell (p:=⟨w.heap.size+1,0,none⟩) (by simp)).trans l1;have hf:=(hb.frozen (p:=⟨w.heap.size+1,0,none⟩) (by simp)).trans l2)
 have hb2:=(under.below_step (two_new w _ _) hb).setCell (p:=⟨w.heap.size+1,0,none⟩) (by simp) (.pointer (some ⟨B,o,none⟩));exact bodyPost_ret (v:=.agg #[.pointer (some ⟨B,o,none⟩)]) (by simp [results,Tryz.results96,go_sem,hc]) rfl ⟨rfl,hb2⟩
theorem look_step{Bm om:Nat}{m m':Mt}{w w':World}{x y:Obj}{u:Value}(h:MAt Bm om m w)(hs:MStep Bm om m' ((w.alloc x).alloc y) w'):MStep Bm om m' w (w'.setCell ⟨w.heap.size+1,0,none⟩ u):=by
 have hlt:=h.lt;have s:=(MStep.of h (two_new w x y)).trans hs;have hb:Below w'.heap.size w' w':=Below.refl _ _;exact⟨s.past.store (.inr (by simp)) u,s.side.trans (Side.of_block (Below.heap_setCell _ _ _ _ (by simp;omega))),s.at'.of_block (Below.heap_setCell _ _ _ _ (by simp;omega))⟩
theorem look_probes(B o Bm om:Nat)(m:Mt)(w:World)(h:MAt Bm om m w):Calls Tryz.prog 96 #[.pointer (some ⟨B,o,none⟩),.agg #[.pointer (some ⟨Bm,om,none⟩)]] w fun e w'=>e=.returned (.agg #[.pointer (some ⟨B,o,none⟩)])∧MStep Bm om (m.probes 1) w w':=by
 have c:=fun W (hb:Below w.heap.size w W)=>visit_probes Bm om m W (h.below hb)
 have hlt:=h.lt;obtain⟨l1,l2⟩:=two_last w (.cells #[.pointer (some ⟨Bm,om,none⟩)] 52) (.pointer none) 104
 go_enter Tryz.func96,Tryz.ntmps96
 go_wp2_with (go_at_call 130;refine (c _ (two_new w _ _)).mono ?_;rintro e w' ⟨rfl,hs⟩;have hc:=hs.past.cell l1 (by simp;omega);have hf:=(hs.past.frozen (b:=w.heap.size+1) (i:=0) (by simp) (by simp;omega)).trans l2)
 exact bodyPost_ret (v:=.agg #[.pointer (some ⟨B,o,none⟩)]) (by simp [results,Tryz.results96,go_sem,hc]) rfl ⟨rfl,look_step h hs⟩
theorem look_visits(B o Bm om:Nat)(m:Mt)(w:World)(h:MAt Bm om m w):Calls Tryz.prog 96 #[.pointer (some ⟨B,o,none⟩),.agg #[.pointer (some ⟨Bm,om+2,none⟩)]] w fun e w'=>e=.returned (.agg #[.pointer (some ⟨B,o,none⟩)])∧MStep Bm om (m.visits 1) w w':=by
 have c:=fun W (hb:Below w.heap.size w W)=>visit_visits Bm om m W (h.below hb)
 have hlt:=h.lt;obtain⟨l1,l2⟩:=two_last w (.cells #[.pointer (some ⟨Bm,om+2,none⟩)] 52) (.pointer none) 104
 go_enter Tryz.func96,Tryz.ntmps96
 go_wp2_with (go_at_call 130;refine (c _ (two_new w _ _)).mono ?_;rintro e w' ⟨rfl,hs⟩;have hc:=hs.past.cell l1 (by simp;omega);have hf:=(hs.past.frozen (b:=w.heap.size+1) (i:=0) (by simp) (by simp;omega)).trans l2)
 exact bodyPost_ret (v:=.agg #[.pointer (some ⟨B,o,none⟩)]) (by simp [results,Tryz.results96,go_sem,hc]) rfl ⟨rfl,look_step h hs⟩
structure FindOk(B o key:Nat)(r:Int)(w W:World):Prop where
 below:Below w.heap.size w W
 cv:W.cell? ⟨w.heap.size,0,none⟩=some (.pointer (some ⟨B,o,none⟩))
 ck:W.cell? ⟨w.heap.size+1,0,none⟩=some (.int .u64 key)
 cr:W.cell? ⟨w.heap.size+1+1,0,none⟩=some (.int .i64 r)
 fr:W.frozen? ⟨w.heap.size+1+1,0,none⟩=false
theorem FindOk.own(B o key:Nat)(w:World)(r:Int)(D:Nat)(hD:w.heap.size≤D):OwnFrom D (fun (_:List Nat) W=>FindOk B o key r w W):=fun s X Y row h hg hr=>by
 have hr':∀r,row=some r→∃o:Obj,X.heap[r]?=some o∧o.isCells=false:=fun r e=>(hr r e).2
 exact⟨h.below.grown hg h.below.size (fun k e=>Nat.le_trans hD (hr k e).1),cell_kept h.cv hg hr',cell_kept h.ck hg hr',cell_kept h.cr hg hr',(frozen_kept h.cr hg hr').trans h.fr⟩
theorem FindOk.start(B o key:Nat)(w:World):FindOk B o key 0 w (((w.alloc (.cells #[.pointer (some ⟨B,o,none⟩)] 104)).alloc (.cells #[.int .u64 key] 42)).alloc (.cells #[.int .i64 0] 3)) ∧
  (((w.alloc (.cells #[.pointer (some ⟨B,o,none⟩)] 104)).alloc (.cells #[.int .u64 key] 42)).alloc (.cells #[.int .i64 0] 3)).heap.size=w.heap.size+3:=by
 obtain⟨w1,h1⟩:∃w1,w.alloc (.cells #[.pointer (some ⟨B,o,none⟩)] 104)=w1:=⟨_,rfl⟩;have e1:w1.heap.size=w.heap.size+1:=by rw [←h1];exact World.size_alloc _ _
 have c1:w1.cell? ⟨w.heap.size,0,none⟩=some (.pointer (some ⟨B,o,none⟩)):=by rw [←h1];exact (Boxed.new w _ _).cell
 have b1:Below w.heap.size w w1:=by rw [←h1];exact new_block w _
 rw [h1];obtain⟨w2,h2⟩:∃w2,w1.alloc (.cells #[.int .u64 key] 42)=w2:=⟨_,rfl⟩;have e2:w2.heap.size=w.heap.size+2:=by rw [←h2,World.size_alloc,e1]
 have c2:w2.cell? ⟨w.heap.size+1,0,none⟩=some (.int .u64 key):=by rw [←h2,←e1];exact (Boxed.new w1 _ _).cell
 have b2:Below w1.heap.size w1 w2:=by rw [←h2];exact new_block w1 _
 rw [h2];have c3:(w2.alloc (.cells #[.int .i64 0] 3)).cell? ⟨w.heap.size+1+1,0,none⟩=some (.int .i64 0):=by rw [show w.heap.size+1+1=w2.heap.size by omega];exact (Boxed.new w2 _ _).cell
 have f3:(w2.alloc (.cells #[.int .i64 0] 3)).frozen? ⟨w.heap.size+1+1,0,none⟩=false:=by rw [show w.heap.size+1+1=w2.heap.size by omega];exact (Boxed.new w2 _ _).frozen
 have b3:=new_block w2 (.cells #[.int .i64 0] 3);have b23:=under.below_step b2 b3;exact⟨⟨under.below_step b1 b23,(b23.cell (show w.heap.size<w1.heap.size by omega)).trans c1,(b3.cell (show w.heap.size+1<w2.heap.size by omega)).trans c2,c3,f3⟩,by rw [World.size_alloc,e2]⟩
theorem FindOk.step{B o key:Nat}{r:Int}{w W W':World}(h:FindOk B o key r w W)(hb:Below W.heap.size W W'):FindOk B o key r w W':=
 ⟨under.below_step h.below hb,(hb.cell (World.block_lt_of_cell? W _ h.cv)).trans h.cv,(hb.cell (World.block_lt_of_cell? W _ h.ck)).trans h.ck,(hb.cell (World.block_lt_of_cell? W _ h.cr)).trans h.cr,(hb.frozen (World.block_lt_of_cell? W _ h.cr)).trans h.fr⟩
theorem FindOk.store{B o key:Nat}{r:Int}{w W:World}(h:FindOk B o key r w W)(x:Int):FindOk B o key x w (W.setCell ⟨w.heap.size+1+1,0,none⟩ (.int .i64 x)):=by
 refine⟨h.below.setCell (by simp;omega) _, ?_, ?_,World.cell?_setCell_same' _ _ _ (by rw [h.cr];rfl),by rw [World.frozen?_setCell];exact h.fr⟩
 ·rw [World.cell?_setCell_other _ _ _ _ (fun e=>by have:=congrArg Addr.block e;simp at this;omega)];exact h.cv
 ·rw [World.cell?_setCell_other _ _ _ _ (fun e=>by have:=congrArg Addr.block e;simp at this)];exact h.ck
theorem keeps_drewN(W:World)(q:Nat):KeepsOthers W (W.drewN q):=⟨Nat.le_refl _,fun _ _ h _=>h⟩
theorem find_end'{B o key:Nat}{r:Int}{w W:World}(h:FindOk B o key r w W)(D:Nat)(hD:w.heap.size+3≤D)(hK:W.heap[D]?=some (.deferred (some []))) :
  W.heap[D]?=some (.deferred (some []))∧(W.putObj D (.deferred none)).cell? ⟨w.heap.size+1+1,0,none⟩=some (.int .i64 r)∧Below w.heap.size w (W.putObj D (.deferred none)):=
 ⟨hK,cell_kept h.cr (grownBy_putObj' _ D (.deferred none)) (fun r e=>by cases e;exact⟨_,hK,rfl⟩),h.below.grown (grownBy_putObj' _ D (.deferred none)) h.below.size (fun r e=>by cases e;omega)⟩
theorem find_end{B o key:Nat}{r:Int}{w W:World}(h:FindOk B o key r w W)(D:Nat)(hD:w.heap.size+3≤D)(hK:W.heap[D]?=some (.deferred (some [])))(x:Int) :
  (W.setCell ⟨w.heap.size+1+1,0,none⟩ (.int .i64 x)).heap[D]?=some (.deferred (some []))∧((W.setCell ⟨w.heap.size+1+1,0,none⟩ (.int .i64 x)).putObj D (.deferred none)).cell? ⟨w.heap.size+1+1,0,none⟩=some (.int .i64 x)∧Below w.heap.size w ((W.setCell ⟨w.heap.size+1+1,0,none⟩ (.int .i64 x)).putObj D (.deferred none)):=
 find_end' (h.store x) D hD ((Below.heap_setCell W ⟨w.heap.size+1+1,0,none⟩ (.int .i64 x) D (by simp;omega)).trans hK)
set_option maxRecDepth 100000 in
set_option maxHeartbeats 4000000 in
theorem find_any(B o:Nat)(g:Gp)(key h:Nat)(hh:h<18446744073709551616)(hg:g.Ok)(w:World)(ha:GAt B o g w)(hT:TabOk w) :
  Calls Tryz.prog 99 #[.agg #[.pointer (some ⟨B,o,none⟩)],.int .u64 key,.int .u64 h] w fun e w'=>e=.returned (.int .i64 (find key h g))∧Below w.heap.size w w':=by
 have hw:=ha.word;have hlt:=ha.lt;have c2:=fun W=>h2_q h hh W
 have c3:=fun W=>(ctrl.match_full (group.word g) (h%128) (word_lt g) (by omega) W).mono fun e w' (k:_∧W=w')=>(⟨k.1,k.2.symm⟩:_∧w'=W)
 rw [m_match g h] at c3;refine (callsIn_wide (n:=3)).1 (callsIn_of_wp_marks Tryz.func99 rfl trivial ?_ rfl);simp only [Tryz.ntmps99,List.size_toArray,List.length_cons,List.length_nil,Nat.reduceAdd,Nat.reduceSub,Array.replicate_succ,Array.replicate_zero,List.push_toArray,List.append_toArray,List.nil_append,List.cons_append];refine wpIn_wide.2 ?_;go_wp2;obtain⟨hS,hz⟩:=FindOk.start B o key w;generalize ((w.alloc (.cells #[.pointer (some ⟨B,o,none⟩)] 104)).alloc (.cells #[.int .u64 key] 42)).alloc (.cells #[.int .i64 0] 3)=W3 at hS hz ⊢;have hG3:=ha.below hS.below;have hw3:=hG3.word;have hv3:=hS.cv;refine wp_region_tail_drew 8 (by kernel_rfl) (by kernel_rfl) ?_;simp only [List.take_succ_cons,List.take_zero,List.drop_succ_cons,List.drop_zero]
 repeat (quiet_step (first
  | (go_at_call 136;exact Calls.quiet_of_same (c2 _))
  | (go_at_call 135;exact Calls.quiet_of_same (c3 _))))
 refine wpQuiet_nil ?_;intro w4 hw4;obtain⟨n4,rfl⟩:=hw4
 go_wp2_with (go_at_call 134;refine (lanes_any _ _).mono ?_;rintro e w' ⟨rfl,rfl⟩)
 obtain⟨W0,hW0⟩:∃W0,(W3.drewN n4).alloc (.cells #[.int .u64 (mkM (isH h g):Nat)] 42)=W0:=⟨_,rfl⟩;have hb0:Below W3.heap.size W3 W0:=by rw [←hW0];exact under.below_step (below_drewN' W3 n4) (new_block _ _)
 have hz0:W0.heap.size=w.heap.size+4:=by rw [←hW0,World.size_alloc];show W3.heap.size+1=_;omega
 have hx0:W0.cell? ⟨w.heap.size+3,0,none⟩=some (.int .u64 (mkM (isH h g):Nat)):=by
  rw [←hW0,←hz];exact (Boxed.new (W3.drewN n4) _ _).cell
 have hS0:=hS.step hb0;have hT0:=hT.below hS0.below hT.lt;rw [hW0];clear hW0 hb0 hS hz hG3 hw3 hv3 hw c2 c3;have hbx:∀{r:Int} {W:World},FindOk B o key r w W→GAt B o g W:=fun hF=>ha.below hF.below
 refine (wpIn_wide (n:=3)).1 ?_
 refine (wpIn_rangeFunc_ownG (F:=Fence.wide) (n:=3) rfl (by decide) (gf:=162) (lb:=#[.pointer (some ⟨w.heap.size+3,0,none⟩)]) rfl trivial (enters_of Tryz.func162 (by kernel_rfl) rfl)
  (lanes_stops8 2 (by decide) (w.heap.size+3) W0.heap.size (mkM (isH h g)) (mkM_lt _) W0 (by omega) hT0.lt hx0 hT0) belowK_t (belowK_b (Nat.le_refl _)) (Below.refl _ _) (fun _=>rfl)
  (fun pre W=>(∀k∈pre,(g (Fin.val k)).key≠key)∧FindOk B o key 0 w W)
  (fun c pre W=>c=.ret∧∃(p:List (Fin 8)) (x:Fin 8),pre=p++[x]∧(∀k∈p,(g (Fin.val k)).key≠key)∧(g x.val).key=key∧FindOk B o key (x.val:Nat) w W)
  ?hI ?hIx ?h0 ?a1 ?assign ?body ?done ?stop)
 case assign =>
  intro l x W K hK;gi_wp2;exact hK
 case hI=>exact OwnFrom.and (ownFrom_pure _ _) (fun s X Y row=>FindOk.own B o key w 0 _ (by omega) [] X Y row)
 case hIx =>
  intro c s X Y row hs hg' hr;obtain⟨h1,p,x,h2,h3,h4,h5⟩:=hs;exact⟨h1,p,x,h2,h3,h4,FindOk.own B o key w _ _ (by omega) [] X Y row h5 hg' hr⟩
 case h0=>exact⟨by simp,hS0⟩
 case body =>
  rintro l pre x W ⟨hm,hF⟩ hlen;have hG:=hbx hF;have hx8:=x.isLt;have ck:=hG.key x.val hx8;have cv:=hF.cv;have cky:=hF.ck;have cr:=hF.cr;have fr:=hF.fr;have hxi:((x.val:Nat):Int)<8:=by omega
  have HF:=Lib.hid hF;have HM:=Lib.hid hm;clear hF hm hG hlen;obtain⟨kx,hkx⟩:∃kx,(g x.val).key=kx:=⟨_,rfl⟩;rw [hkx] at ck
  by_cases hk:kx=key
  ·have d:(((kx:Nat):Int)==((key:Nat):Int))=true:=by rw [beq_iff_eq];omega
   gi_wp2;refine inround.region (by kernel_rfl) (by kernel_rfl) (by kernel_rfl) ?_
   repeat (quiet_step_in (fail))
   refine wpQuietIn_nil ?_;intro w5 hw5;obtain⟨n5,rfl⟩:=hw5;gi_wp2;obtain⟨hF,hm⟩:=And.intro HF.out HM.out;subst hk;refine⟨?_,rfl,pre,x,rfl,hm,hkx, ?_⟩
   ·exact ((keeps_drewN W n5).trans (KeepsOthers.setCell _ _ _)).from _
   ·exact (hF.step (below_drewN' W n5)).store _
  ·have d:(((kx:Nat):Int)==((key:Nat):Int))=false:=by rw [beq_eq_false_iff_ne];omega
   gi_wp2;refine inround.region (by kernel_rfl) (by kernel_rfl) (by kernel_rfl) ?_
   repeat (quiet_step_in (fail))
   refine wpQuietIn_nil ?_;intro w5 hw5;obtain⟨n5,rfl⟩:=hw5;gi_wp2;refine⟨(keeps_drewN W n5).from _,⟨rfl,rfl,rfl,Nat.le_refl _,fun _ _=>rfl⟩, ?_,HF.out.step (below_drewN' W n5)⟩;intro k hk'
   rcases List.mem_append.1 hk' with h'|h'
   ·exact HM.out k h'
   ·obtain rfl:k=x:=by simpa using h'
    rw [hkx];exact hk
 case done =>
  rintro D ys W hD hys ⟨hm,hF⟩ hK
  have hf:find key h g=-1:=by
   rw [find_list,←tl_mk,←hys];refine headI_none fun k hk=>?_
   obtain⟨k',h1,rfl⟩:=List.mem_map.1 hk;exact decide_eq_false (hm k' h1)
  have cr:=hF.cr;have fr:=hF.fr;have HN:=Lib.hid hf;clear hf;have hE:=Lib.hid (find_end hF D (by omega) hK (-1));clear hF hm;go_wp2;obtain⟨k1,k2,k3⟩:=hE.out;refine⟨by simp,.inl ⟨_,_,rfl,run_takeDeferred k1, ?_⟩⟩;refine⟨.int .i64 (-1), ?_,by rw [HN.out],k3⟩
  simp [results,Tryz.f99,go_sem,k2]
 case stop =>
  rintro D c pre W hD hpre ⟨rfl,p,x,rfl,hm,hx,hF⟩ hK
  have hf:find key h g=(x.val:Nat):=by
   rw [find_list,←tl_mk];refine headI_hit (pre:=p.map Fin.val) (by simpa using hpre) ?_ (decide_eq_true hx);intro k hk;obtain⟨k',h1,rfl⟩:=List.mem_map.1 hk;exact decide_eq_false (hm k' h1)
  have HN:=Lib.hid hf;clear hf;have hE:=Lib.hid (find_end' hF D (by omega) hK);clear hF hm;refine wpIn_wide.2 ?_;go_wp2;obtain⟨k1,k2,k3⟩:=hE.out;refine⟨by simp,.inl ⟨_,_,rfl,run_takeDeferred k1, ?_⟩⟩;refine⟨.int .i64 (x.val:Nat), ?_,by rw [HN.out],k3⟩
  simp [results,Tryz.f99,go_sem,k2]
end group
namespace group
open Go.ChangeShapes Go.WideShapes Go.ChangeAt Go.RowKit swar trap under meter tail
def inR(i:Int):Bool:=decide (0≤i)&&decide (i<8)
def fullAt(g:Gp)(i:Int):Bool:=inR i&&is 3 g i.toNat
def putE(g:Gp)(i:Int):Nat:=if inR i=true then (if is 3 g i.toNat=true then 5 else 0) else 1
def putB(g:Gp)(i:Int):Bool:=inR i&&is 2 g i.toNat
def putG(g:Gp)(i:Int)(s:Sl):Gp:=if putE g i=0 then g.put i.toNat s else g
def valE(g:Gp)(i:Int):Nat:=if inR i=true then (if is 3 g i.toNat=true then 0 else 5) else 1
def valG(g:Gp)(i:Int)(v:Nat):Gp:=if fullAt g i=true then g.put i.toNat { g i.toNat with val:=v } else g
def eraB(g:Gp)(i:Int):Bool:=fullAt g i&&!opens g
def eraG(g:Gp)(i:Int):Gp:=if fullAt g i=true then g.put i.toNat (erased g) else g
theorem inR_cases(i:Int):(inR i=false∧(i<0∨8≤i))∨(inR i=true∧∃k:Nat,k<8∧i=k):=by
 by_cases h0:0≤i
 ·by_cases h8:i<8
  ·exact .inr ⟨by simp [inR,h0,h8],i.toNat,by omega,by omega⟩
  ·exact .inl ⟨by simp [inR,h8],.inr (by omega)⟩
 ·exact .inl ⟨by simp [inR,h0],.inl (by omega)⟩
theorem is_excl{g:Gp}{k:Nat}(h:is 3 g k=true):is 2 g k=false:=by
 unfold is at h ⊢;have:=of_decide_eq_true h;simp [this]
structure Errs2(a:String→Addr)(w:World):Prop where
 range : w.cell? ⟨0, 0, none⟩ = some (errs.errV (a "ambler/api.ErrRange"))
 state : w.cell? ⟨2, 0, none⟩ = some (errs.errV (a "ambler/api.ErrState"))
theorem Errs2.below{a:String→Addr}{w W:World}(h:Errs2 a w)(hb:Below w.heap.size w W):Errs2 a W:=
 ⟨(hb.cell (World.block_lt_of_cell? w _ h.range)).trans h.range,(hb.cell (World.block_lt_of_cell? w _ h.state)).trans h.state⟩
theorem is_put(n:Nat)(g:Gp)(i k:Nat)(s:Sl):is n (g.put i s) k=if k=i then decide (s.kind=n) else is n g k:=by
 unfold is Gp.put;split <;> rfl
theorem cntB_put{p q:Nat→Bool}{i:Nat}(hi:i<8)(h:∀k,k≠i→q k=p k):cntB q+(p i).toNat=cntB p+(q i).toNat:=by
 unfold cntB
 rcases lane8 hi with rfl|rfl|rfl|rfl|rfl|rfl|rfl|rfl
 ·rw [h 1 (by decide),h 2 (by decide),h 3 (by decide),h 4 (by decide),h 5 (by decide),h 6 (by decide),h 7 (by decide)];omega
 ·rw [h 0 (by decide),h 2 (by decide),h 3 (by decide),h 4 (by decide),h 5 (by decide),h 6 (by decide),h 7 (by decide)];omega
 ·rw [h 0 (by decide),h 1 (by decide),h 3 (by decide),h 4 (by decide),h 5 (by decide),h 6 (by decide),h 7 (by decide)];omega
 ·rw [h 0 (by decide),h 1 (by decide),h 2 (by decide),h 4 (by decide),h 5 (by decide),h 6 (by decide),h 7 (by decide)];omega
 ·rw [h 0 (by decide),h 1 (by decide),h 2 (by decide),h 3 (by decide),h 5 (by decide),h 6 (by decide),h 7 (by decide)];omega
 ·rw [h 0 (by decide),h 1 (by decide),h 2 (by decide),h 3 (by decide),h 4 (by decide),h 6 (by decide),h 7 (by decide)];omega
 ·rw [h 0 (by decide),h 1 (by decide),h 2 (by decide),h 3 (by decide),h 4 (by decide),h 5 (by decide),h 7 (by decide)];omega
 ·rw [h 0 (by decide),h 1 (by decide),h 2 (by decide),h 3 (by decide),h 4 (by decide),h 5 (by decide),h 6 (by decide)];omega
theorem count_put(n:Nat)(g:Gp){i:Nat}(hi:i<8)(s:Sl):count n (g.put i s)+(is n g i).toNat=count n g+(decide (s.kind=n)).toNat:=by
 have h:=cntB_put (p:=is n g) (q:=is n (g.put i s)) hi (fun k hk=>by rw [is_put,if_neg hk]);rw [is_put,if_pos rfl] at h;exact h
theorem opens_put{g:Gp}{k:Nat}{s:Sl}(h:opens g=false)(hs:s.kind≠1):opens (g.put k s)=false:=by
 cases ho:opens (g.put k s)
 ·rfl
 ·obtain⟨j,hj,h1⟩:=(opens_iff _).1 ho
  by_cases e:j=k
  ·subst e;rw [put_same] at h1;exact absurd h1 hs
  ·rw [put_ne g s e] at h1
   rw [(opens_iff g).2 ⟨j,hj,h1⟩] at h;cases h
end group
namespace group
open Go.ChangeShapes Go.WideShapes Go.ChangeAt Go.RowKit Go.Shelf swar trap under meter tail
attribute [local go_sem] Oper.semAt_some stage.pureUpon move.stepUpon
def ent(s:Sl):List Value:=[.int .u64 (s.key:Nat),.int .u64 (s.val:Nat),.int .u64 (s.hash:Nat)]
def rows(g:Gp)(l:List Nat):List Value:=l.flatMap fun k=>ent (g k)
theorem rows_snoc(g:Gp)(l:List Nat)(k:Nat):rows g (l++[k])=rows g l++ent (g k):=by simp [rows]
theorem rows_at(g:Gp):∀(l:List Nat) (j d:Nat) (hj:j<l.length),d<3→(rows g l)[j*3+d]?=(ent (g l[j]))[d]?
 | k::l,0,d,_,hd=>by
  have h:rows g (k::l)=ent (g k)++rows g l:=by simp [rows]
  rw [h,Nat.zero_mul,Nat.zero_add,List.getElem?_append_left (by simp [ent];omega)];rfl
 | k::l,j+1,d,hj,hd=>by
  have h:rows g (k::l)=ent (g k)++rows g l:=by simp [rows]
  rw [h,List.getElem?_append_right (by simp [ent];omega)];have e:(j+1)*3+d-(ent (g k)).length=j*3+d:=by simp [ent];omega
  rw [e];exact rows_at g l j d (by simpa using hj) hd
theorem infoEnt:(Tryz.prog.info? 44).map (fun i=>(i.zero,i.size,i.bytes))=some (some (.agg #[.int .u64 0,.int .u64 0,.int .u64 0]),3,24):=by kernel_rfl
def Kept(base:Nat)(W:World)(v:Value)(g:Gp)(l:List Nat):Prop:=W.ownsRow base 44 3 v l.length (rows g l)
structure EntsOk(B o:Nat)(g:Gp)(w:World)(pre:List (Fin 8))(W:World):Prop where
 row:∃v,Boxed W (w.heap.size+1) 60 v∧Kept w.heap.size W v g (pre.map Fin.val)∧True
 vw:Boxed W w.heap.size 104 (.pointer (some ⟨B,o,none⟩))
 below:Below w.heap.size w W
def EntD(W:World)(s:Sl):Nat→World→Prop
 | 0=>fun w'=>∃q,w'=W.drewN q
 | _=>fun w'=>∃q,w'=(W.drewN q).alloc (.cells #[.int .u64 (s.key:Nat),.int .u64 (s.val:Nat),.int .u64 (s.hash:Nat)] 44)
theorem EntD.cell{W:World}{s:Sl}{p:Addr}{v:Value}(h:W.cell? p=some v)(q:stage.Un (EntD W s)):q.W.cell? p=some v:=by
 obtain⟨i,w',h'⟩:=q
 match i,h' with
 | 0,⟨q,e⟩=>show w'.cell? p=_;rw [e];exact h
 | i+1,⟨q,e⟩ =>
  show w'.cell? p=_;rw [e];have hlt:=World.block_lt_of_cell? W p h;exact ((new_block (W.drewN q) _).cell hlt).trans h
theorem cell_three_new(w:World)(a b c:Value)(t:TypeId):∀j u,[a,b,c][j]?=some u→(w.alloc (.cells #[a,b,c] t)).cell? ((⟨w.heap.size,0,none⟩:Addr).add j)=some u:=by
 intro j u hj;have hr:=World.alloc_heap_new w (.cells #[a,b,c] t);have hadd:(⟨w.heap.size,0,none⟩:Addr).add j=⟨w.heap.size,j,none⟩:=by unfold Addr.add;split <;> simp_all
 rw [hadd,cell_of_row _ _ j _ _ _ hr]
 simpa using hj
set_option maxRecDepth 100000 in
set_option maxHeartbeats 4000000 in
theorem entries_any(B o:Nat)(g:Gp)(hg:g.Ok)(w:World)(ha:GAt B o g w)(hT:TabOk w) :
  Calls Tryz.prog 184 #[.agg #[.pointer (some ⟨B,o,none⟩)]] w fun e w'=>∃v,e=.returned v∧Kept w.heap.size w' v g (fulls g)∧Below w.heap.size w w':=by
 have hw:=ha.word;have hlt:=ha.lt;have c1:=ctrl.fulls_any (group.word g) (word_lt g);rw [m_fulls hg] at c1;refine (callsIn_wide (n:=3)).1 (callsIn_of_wp_marks Tryz.func184 rfl trivial ?_ rfl);simp only [Tryz.ntmps184,List.size_toArray,List.length_cons,List.length_nil,Nat.reduceAdd,Nat.reduceSub,Array.replicate_succ,Array.replicate_zero,List.push_toArray,List.append_toArray,List.nil_append,List.cons_append];refine wpIn_wide.2 ?_
 go_wp2_with (first
  | (go_at_call 191;refine (c1 _).mono ?_;rintro e w' ⟨rfl,rfl⟩)
  | (go_at_call 134;refine (lanes_any _ _).mono ?_;rintro e w' ⟨rfl,rfl⟩))
 obtain⟨i0,hi0,hq0,hq1,hq2⟩:=info_parts infoEnt;obtain⟨w1,h1⟩:∃w1,w.alloc (.cells #[.pointer (some ⟨B,o,none⟩)] 104)=w1:=⟨_,rfl⟩;have z1:w1.heap.size=w.heap.size+1:=by rw [←h1];exact World.size_alloc _ _
 have x1:Boxed w1 w.heap.size 104 (.pointer (some ⟨B,o,none⟩)):=by rw [←h1];exact Boxed.new w _ _
 have b1:Below w.heap.size w w1:=by rw [←h1];exact new_block w _
 rw [h1];obtain⟨w2,h2⟩:∃w2,w1.alloc (.cells #[.slice none 0 0] 60)=w2:=⟨_,rfl⟩;have z2:w2.heap.size=w.heap.size+1+1:=by rw [←h2,World.size_alloc,z1]
 have x2:Boxed w2 (w.heap.size+1) 60 (.slice none 0 0):=by rw [←h2,←z1];exact Boxed.new w1 _ _
 have b2:Below w.heap.size w w2:=by rw [←h2];exact under.below_step b1 (new_block w1 _)
 have y2:Boxed w2 w.heap.size 104 (.pointer (some ⟨B,o,none⟩)):=by rw [←h2];exact x1.alloc _
 rw [h2];obtain⟨W0,h3⟩:∃W0,w2.alloc (.cells #[.int .u64 (mkM (is 3 g):Nat)] 42)=W0:=⟨_,rfl⟩;have z3:W0.heap.size=w.heap.size+3:=by rw [←h3,World.size_alloc,z2]
 have x3:W0.cell? ⟨w.heap.size+1+1,0,none⟩=some (.int .u64 (mkM (is 3 g):Nat)):=by rw [←h3,←z2];exact (Boxed.new w2 _ _).cell
 have hS0:EntsOk B o g w [] W0:=by
  rw [←h3];exact⟨⟨_,x2.alloc _,⟨rfl,.inl ⟨rfl,rfl⟩⟩,trivial⟩,y2.alloc _,under.below_step b2 (new_block w2 _)⟩
 have hT0:=hT.below hS0.below hT.lt;rw [h3];clear h1 h2 h3 z1 x1 b1 z2 x2 b2 y2 w1 w2 c1 hw;refine (wpIn_wide (n:=3)).1 ?_
 refine (wpIn_rangeFunc_ownG (F:=Fence.wide) (n:=3) rfl (by decide) (gf:=162) (lb:=#[.pointer (some ⟨w.heap.size+1+1,0,none⟩)]) rfl trivial (enters_of Tryz.func162 (by kernel_rfl) rfl)
  (lanes_stops8 2 (by decide) (w.heap.size+1+1) w.heap.size (mkM (is 3 g)) (mkM_lt _) W0 (by omega) hT.lt x3 hT0) belowK_t (belowK_b (by omega)) (Below.refl _ _) (fun _=>rfl)
  (fun pre W=>EntsOk B o g w pre W)
  (fun _ _ _=>False)
  ?hI (fun _ _ _ _ _ hs _ _=>hs) hS0 ?a1 ?assign ?body ?done ?stop)
 case assign =>
  intro l x W K hK;gi_wp2;exact hK
 case hI =>
  intro s X Y row h hg' hr;have hr':∀r,row=some r→∃o:Obj,X.heap[r]?=some o∧o.isCells=false:=fun r e=>(hr r e).2
  refine⟨?_,h.vw.kept hg' (fun e'=>?_),h.below.grown hg' h.below.size (fun k e=>by have:=(hr k e).1;omega)⟩
  ·exact holdsRow_own w.heap.size (w.heap.size+1) 60 44 3 (fun (pre:List (Fin 8))=>(pre.map Fin.val).length) (fun (pre:List (Fin 8))=>rows g (pre.map Fin.val)) (fun _ _=>True) s X Y row h.row hg' hr'
  ·obtain⟨ob,ho,hc⟩:=hr' _ e'.symm
   rw [show X.heap[w.heap.size]?=_ from h.vw] at ho;cases ho;cases hc
 case body =>
  rintro l pre x W hI hlen
  have hlen8:pre.length<8:=by
   have h8:=tl_length (mkM (is 3 g));rw [cnt_is] at h8;have:=count_le 3 g;omega
  clear hlen;have hx8:=x.isLt;have hxi:((x.val:Nat):Int)<8:=by omega
  obtain⟨v,hv,hrow,_⟩:=hI.row;have hG:=ha.below hI.below;have fv:=hI.vw.cell;have fl:=hv.cell;have e1:=hG.key x.val hx8;have e2:=hG.val x.val hx8;have e3:=hG.hash x.val hx8;have HI:=Lib.hid hI;have HV:=Lib.hid hv;have HR:=Lib.hid hrow;clear hI hv hrow hG;gi_wp2;have ql:=EntD.cell (s:=g x.val) fl;have qv:=EntD.cell (s:=g x.val) fv;have q1:=EntD.cell (s:=g x.val) e1;have q2:=EntD.cell (s:=g x.val) e2;have q3:=EntD.cell (s:=g x.val) e3
  haveI : Nonempty (stage.Un (EntD W (g x.val))):=⟨⟨0,W,0,rfl⟩⟩
  refine move.region (D:=EntD W (g x.val)) 9 [false,false,false,false,false,false,false,false,true] (by kernel_rfl) (by kernel_rfl) (by kernel_rfl) ⟨1,rfl⟩ ?_;simp only [List.take_succ_cons,List.take_zero,List.drop_succ_cons,List.drop_zero]
  iterate 8
   refine move.pure_step (by unfold move.asked;quiet_asked_in) (fun K hK=>?_);go_simp;refine hK _ ?_;clear hK K
  refine move.move_step (v:=.slice (some ⟨W.heap.size,0,none⟩) 1 1) (by unfold move.asked;quiet_asked_in) (by kernel_rfl) (fun wd hd=>?_) (fun K hK=>?_)
  ·obtain⟨q,rfl⟩:=hd
   go_simp;exact⟨q,rfl⟩
  ·refine hK _ ?_
   clear hK K;refine move.nil_step ?_;rintro w' ⟨n5,rfl⟩;have hz5:(W.drewN n5).heap.size=W.heap.size:=rfl;have k5:=keeps_drewN W n5;have b5:Below w.heap.size W (W.drewN n5):=⟨rfl,rfl,rfl,Nat.le_refl _,fun _ _=>rfl⟩;have hb5:Below w.heap.size w (W.drewN n5):=HI.out.below.trans b5;have hw5:Boxed (W.drewN n5) w.heap.size 104 (.pointer (some ⟨B,o,none⟩)):=HI.out.vw;have hv5:Boxed (W.drewN n5) (w.heap.size+1) 60 v:=HV.out;have hr5:(W.drewN n5).ownsRow w.heap.size 44 3 v pre.length (rows g (pre.map Fin.val)):=by have h:=HR.out;unfold Kept at h;rw [List.length_map] at h;exact h
   have hn5:=cell_three_new (W.drewN n5) (.int .u64 ((g x.val).key:Nat)) (.int .u64 ((g x.val).val:Nat)) (.int .u64 ((g x.val).hash:Nat)) 44;rw [←hz5];generalize W.drewN n5=W5 at k5 b5 hb5 hw5 hv5 hr5 hn5 ⊢;clear HI HV HR fv fl e1 e2 e3 ql qv q1 q2 q3 hz5 this;have hc:=hv5.cell;have hz:=hb5.size
   gi_wp2_with (gi_at_builtin;refine wpListIn_append_own _ rfl _ _ 60 rfl w.heap.size 44 i0 (.agg #[.int .u64 0,.int .u64 0,.int .u64 0]) 3 24 Tryz.underlying60 hi0 hq0 hq1 hq2 rfl (by decide) _ _ _ rfl (hr5.alloc _) ⟨W5.heap.size,0,none⟩ 1 1 (ent (g x.val)) rfl rfl hn5 (by simp [ent,Value.oneCell']) (by simp only [maxLen];omega) (by omega) (by simp;omega) ?_;intro v' w1 hown' hgrow _;obtain⟨g',cap',rfl⟩:=ownsRow_succ hown';obtain⟨hv1,hv2,hr2,hk2,hb2⟩:=hv5.appended (by decide) hr5 hz (by omega) hown' hgrow;have hc1:=hv1.cell;have hf1:=hv1.frozen;have hw1:=((hw5.alloc _).kept hgrow (hw5.not_row (by decide) hr5)).other (show w.heap.size≠w.heap.size+1 by omega) (.slice (some ⟨g',0,none⟩) (pre.length+1) cap'))
   refine⟨(k5.trans hk2).from _,b5.trans hb2,⟨⟨_,hv2, ?_,trivial⟩,hw1,hb5.trans hb2⟩⟩;unfold Kept;rw [List.map_append,List.length_append,List.length_map]
   simpa [rows_snoc] using hr2
 case done =>
  rintro D ys W hD hys hI hK;obtain⟨v,hv,hrow,_⟩:=hI.row;have hc:=hv.cell;have hbK:=belowK_b (w:=w) (Nat.le_refl _) W D (.deferred (some [])) (.deferred none) (by omega) hK rfl rfl;have hrow3:=ownsRow_putObj hrow (.deferred none) hK rfl;have hys':ys.map Fin.val=fulls g:=by rw [hys,tl_mk];rfl
  rw [hys'] at hrow3;have HB:=Lib.hid (hI.below.trans hbK);have HR:=Lib.hid hrow3;clear hI hrow hrow3 hbK hys hys';go_wp2;refine⟨by simp,.inl ⟨_,_,rfl,run_takeDeferred hK, ?_⟩⟩;refine⟨_,results_tmp rfl _ _ _, ?_⟩;exact⟨v,rfl,HR.out,HB.out⟩
 case stop =>
  rintro D c pre W _ _ h _;exact h.elim
end group
end Go.Proofs.YtdplhgpeggcmdaaGreatDoor
