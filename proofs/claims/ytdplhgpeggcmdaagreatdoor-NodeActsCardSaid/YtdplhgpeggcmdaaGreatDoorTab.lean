/- Tab: facts and laws for the walks. -/
import Derived.Test.YtdplhgpeggcmdaaGreatDoorTabMath
namespace Go.Proofs.YtdplhgpeggcmdaaGreatDoor
set_option linter.unusedSimpArgs false
set_option linter.unusedVariables false
namespace lens
open Go.RowKit errs under trap meter group
inductive Ln where
 | nil:Ln
 | pr:Nat→Nat→Ln
 | vi:Nat→Nat→Ln
def Ln.v:Ln→Value
 | .nil=>.agg #[.pointer none]
 | .pr B o=>.agg #[.pointer (some ⟨B,o,none⟩)]
 | .vi B o=>.agg #[.pointer (some ⟨B,o+2,none⟩)]
def Ln.p:Ln→Option Addr
 | .nil=>none
 | .pr B o=>some ⟨B,o,none⟩
 | .vi B o=>some ⟨B,o+2,none⟩
def Ln.d:Ln→List Nat
 | .nil=>[]
 | .pr B _=>[B]
 | .vi B _=>[B]
def Ln.one:Ln→Mt→Mt
 | .nil,m=>m
 | .pr _ _,m=>m.probes 1
 | .vi _ _,m=>m.visits 1
def Ln.see(L:Ln)(m:Mt):Nat→Mt
 | 0=>m
 | k+1=>L.one (L.see m k)
theorem Ln.see_zero(L:Ln)(m:Mt):L.see m 0=m:=rfl
theorem Ln.see_succ(L:Ln)(m:Mt)(k:Nat):L.see m (k+1)=L.one (L.see m k):=rfl
theorem Ln.see_add(L:Ln)(m:Mt)(j:Nat):∀k,L.see m (j+k)=L.see (L.see m j) k
 | 0=>by rw [Nat.add_zero,L.see_zero]
 | k+1=>by rw [←Nat.add_assoc,L.see_succ,L.see_succ,Ln.see_add L m j k]
def LnAt:Ln→Mt→World→Prop
 | .nil,_,_=>True
 | .pr B o,m,w=>MAt B o m w
 | .vi B o,m,w=>MAt B o m w
def LnSide:Ln→World→World→Prop
 | .nil,_,_=>True
 | .pr B o,w,w'=>Side B o w w'
 | .vi B o,w,w'=>Side B o w w'
structure LnStep(d:List Nat)(L:Ln)(m:Mt)(w w':World):Prop where
 past:Past (d++L.d) w w'
 side:LnSide L w w'
 at':LnAt L m w'
theorem LnAt.lt{L:Ln}{m:Mt}{w:World}(h:LnAt L m w):∀b∈L.d,b<w.heap.size:=by
  cases L with
  | nil=>intro b hb;cases hb
  | pr B o => intro b hb; obtain rfl : b = B := by simpa [Ln.d] using hb
              exact MAt.lt h
  | vi B o => intro b hb; obtain rfl : b = B := by simpa [Ln.d] using hb
              exact MAt.lt h
theorem LnAt.past{L:Ln}{m:Mt}{w w':World}{d:List Nat}(h:LnAt L m w)(hb:Past d w w')(hd:∀b∈L.d,b∉d):LnAt L m w':=by
 cases L with
 | nil=>trivial
 | pr B o=>exact MAt.past h hb (hd B (by simp [Ln.d]))
 | vi B o=>exact MAt.past h hb (hd B (by simp [Ln.d]))
theorem LnAt.below{L:Ln}{m:Mt}{w w':World}(h:LnAt L m w)(hb:Below w.heap.size w w'):LnAt L m w':=by
 cases L with
 | nil=>trivial
 | pr B o=>exact MAt.below h hb
 | vi B o=>exact MAt.below h hb
theorem LnSide.of_past{L:Ln}{m:Mt}{w w':World}{d:List Nat}(h:LnAt L m w)(hb:Past d w w')(hd:∀b∈L.d,b∉d):LnSide L w w':=by
 cases L with
 | nil=>trivial
 | pr B o=>exact Side.of_block (hb.block B (MAt.lt h) (hd B (by simp [Ln.d])))
 | vi B o=>exact Side.of_block (hb.block B (MAt.lt h) (hd B (by simp [Ln.d])))
theorem LnSide.trans{L:Ln}{x y z:World}(h:LnSide L x y)(k:LnSide L y z):LnSide L x z:=by
 cases L with
 | nil=>trivial
 | pr B o=>exact Side.trans h k
 | vi B o=>exact Side.trans h k
theorem LnStep.of_past{d:List Nat}{L:Ln}{m:Mt}{w w':World}(h:LnAt L m w)(hp:Past d w w')(hd:∀b∈L.d,b∉d):LnStep d L m w w':=
 ⟨hp.mono fun k hk=>List.mem_append_left _ hk,.of_past h hp hd,h.past hp hd⟩
theorem LnStep.of{L:Ln}{m:Mt}{w w':World}(d:List Nat)(h:LnAt L m w)(hb:Below w.heap.size w w'):LnStep d L m w w':=
 ⟨Past.of hb,.of_past (d:=[]) h (Past.of hb) (fun _ _=>by simp),h.below hb⟩
theorem LnStep.refl{L:Ln}{m:Mt}{w:World}(d:List Nat)(h:LnAt L m w):LnStep d L m w w:=.of d h (Below.refl _ _)
theorem LnStep.trans{d:List Nat}{L:Ln}{m m':Mt}{x y z:World}(h:LnStep d L m x y)(k:LnStep d L m' y z):LnStep d L m' x z:=⟨h.past.trans k.past,h.side.trans k.side,k.at'⟩
theorem LnStep.below{d:List Nat}{L:Ln}{m:Mt}{x y z:World}(h:LnStep d L m x y)(k:Below y.heap.size y z):LnStep d L m x z:=h.trans (.of d h.at' k)
theorem LnStep.mono{d d':List Nat}{L:Ln}{m:Mt}{x y:World}(h:LnStep d L m x y)(hd:∀b∈d,b∈d'):LnStep d' L m x y:=⟨h.past.mono fun b hb=>by
 rcases List.mem_append.1 hb with hb|hb
 ·exact List.mem_append_left _ (hd b hb)
 ·exact List.mem_append_right _ hb,h.side,h.at'⟩
theorem LnStep.newset{d:List Nat}{L:Ln}{m:Mt}{w w':World}(h:LnStep d L m w w')(hd:∀b∈L.d,b<w.heap.size){p:Addr}(hp:w.heap.size≤p.block)(u:Value):LnStep d L m w (w'.setCell p u):=by
 have k:Past [p.block] w' (w'.setCell p u):=(Past.refl [p.block] w').store (.inl (by simp)) u;have n:∀b∈L.d,b∉[p.block]:=fun b hb=>by have:=hd b hb;simp;omega
 exact⟨h.past.store (.inr hp) u,h.side.trans (.of_past h.at' k n),h.at'.past k n⟩
theorem LnAt.nd{L:Ln}{m:Mt}{w:World}(h:LnAt L m w){b:Nat}(hb:w.heap.size≤b):b∉L.d:=fun he=>by have:=h.lt b he;omega
theorem look_any(B o:Nat)(L:Ln)(m:Mt)(w:World)(h:LnAt L m w) :
  Calls Tryz.prog 96 #[.pointer (some ⟨B,o,none⟩),.agg #[.pointer L.p]] w fun e w'=>e=.returned (.agg #[.pointer (some ⟨B,o,none⟩)])∧LnStep [] L (L.one m) w w':=by
 cases L with
 | nil=>exact (look_nil B o w).mono fun e w' ⟨he,hb⟩=>⟨he,.of [] h hb⟩
 | pr Bm om=>exact (look_probes B o Bm om m w h).mono fun e w' ⟨he,hs⟩=>⟨he,by simpa [Ln.d] using hs.past,hs.side,hs.at'⟩
 | vi Bm om=>exact (look_visits B o Bm om m w h).mono fun e w' ⟨he,hs⟩=>⟨he,by simpa [Ln.d] using hs.past,hs.side,hs.at'⟩
end lens
namespace table
open Go.RowKit errs under trap meter group probe lens
structure TAt(T B:Nat)(t:Tb)(w:World):Prop where
 row:w.cell? ⟨T,0,none⟩=some (.slice (some ⟨B,0,none⟩) t.n t.n)
 len:w.cell? ⟨T,1,none⟩=some (.int .i64 t.len)
 tombs:w.cell? ⟨T,2,none⟩=some (.int .i64 t.tombs)
 fz:∀i,w.frozen? ⟨T,i,none⟩=false
 gs:∀i,i<t.n→GAt B (i*25) (t.gs i) w
 ne:T≠B
 lb:B<w.heap.size
theorem TAt.lt{T B:Nat}{t:Tb}{w:World}(h:TAt T B t w):T<w.heap.size:=World.block_lt_of_cell? w _ h.row
theorem TAt.of_blocks{T B:Nat}{t:Tb}{w w':World}(h:TAt T B t w)(hT:w'.heap[T]?=w.heap[T]?)(hB:w'.heap[B]?=w.heap[B]?)(hz:w.heap.size≤w'.heap.size):TAt T B t w':=
 have c:∀i v,w.cell? ⟨T,i,none⟩=some v→w'.cell? ⟨T,i,none⟩=some v:=fun i v hc=>(World.cell?_of_block (w:=w) hT).trans hc
 ⟨c _ _ h.row,c _ _ h.len,c _ _ h.tombs,fun i=>(World.frozen?_of_block (w:=w) hT).trans (h.fz i),fun i hi=>(h.gs i hi).of_block hB,h.ne,Nat.lt_of_lt_of_le h.lb hz⟩
theorem TAt.below{T B:Nat}{t:Tb}{w w':World}(h:TAt T B t w)(hb:Below w.heap.size w w'):TAt T B t w':=h.of_blocks (hb.block T h.lt) (hb.block B h.lb) hb.size
theorem TAt.past{T B:Nat}{t:Tb}{w w':World}{d:List Nat}(h:TAt T B t w)(hp:Past d w w')(hT:T∉d)(hB:B∉d):TAt T B t w':=h.of_blocks (hp.block T h.lt hT) (hp.block B h.lb hB) hp.size
theorem TAt.gstep{T B:Nat}{t:Tb}{w w':World}(h:TAt T B t w){i:Nat}{g:Gp}(hs:group.GStep B (i*25) g w w'):TAt T B ⟨t.n,upd t.gs i g,t.len,t.tombs⟩ w':=by
 have nT:T∉[B]:=by simpa using h.ne
 have c:∀i v,w.cell? ⟨T,i,none⟩=some v→w'.cell? ⟨T,i,none⟩=some v:=fun i v hc=>hs.past.cell hc nT
 refine⟨c _ _ h.row,c _ _ h.len,c _ _ h.tombs,fun j=>(hs.past.frozen h.lt nT).trans (h.fz j),fun j hj=>?_,h.ne,Nat.lt_of_lt_of_le h.lb hs.past.size⟩;show GAt B (j*25) (upd t.gs i g j) w'
 by_cases e:j=i
 ·subst e;rw [upd_same];exact hs.at'
 ·rw [upd_ne _ _ e]
  have hg:=h.gs j hj
  have cc:∀d v,d<25→w.cell? ⟨B,j*25+d,none⟩=some v→w'.cell? ⟨B,j*25+d,none⟩=some v:=fun d v hd hc=>by
   rw [hs.side.cells _ (by omega)];exact hc
  refine⟨cc 0 _ (by decide) hg.word,fun k hk=>?_,fun k hk=>?_,fun k hk=>?_,fun k=>by rw [hs.side.frozen];exact hg.fz k⟩
  ·have:=cc (1+k*3) _ (by omega) (by have:=hg.key k hk;rwa [Nat.add_assoc] at this)
   rwa [←Nat.add_assoc] at this
  ·have:=cc (1+k*3+1) _ (by omega) (by have:=hg.val k hk;rwa [show j*25+1+k*3+1=j*25+(1+k*3+1) by omega] at this)
   rwa [show j*25+(1+k*3+1)=j*25+1+k*3+1 by omega] at this
  ·have:=cc (1+k*3+2) _ (by omega) (by have:=hg.hash k hk;rwa [show j*25+1+k*3+2=j*25+(1+k*3+2) by omega] at this)
   rwa [show j*25+(1+k*3+2)=j*25+1+k*3+2 by omega] at this
theorem TAt.setLen{T B:Nat}{t:Tb}{w:World}(h:TAt T B t w)(len:Int):TAt T B ⟨t.n,t.gs,len,t.tombs⟩ (w.setCell ⟨T,1,none⟩ (.int .i64 len)):=by
 obtain⟨h0,h1,h2,hf,hg,ne,lb⟩:=h;refine⟨?_, ?_, ?_,fun i=>by simp [go_sem,hf],fun i hi=>(hg i hi).of_block ?_,ne,by simpa [World.setCell] using lb⟩
 ·simp [World.cell?_setCell_other,h0]
 ·exact World.cell?_setCell_same' _ _ _ (by rw [h1];rfl)
 ·rw [World.cell?_setCell_other _ _ _ _ (off_ne (by decide))];exact h2
 ·exact Below.heap_setCell _ ⟨T,1,none⟩ _ _ (by simpa using Ne.symm ne)
theorem TAt.setTombs{T B:Nat}{t:Tb}{w:World}(h:TAt T B t w)(tombs:Int):TAt T B ⟨t.n,t.gs,t.len,tombs⟩ (w.setCell ⟨T,2,none⟩ (.int .i64 tombs)):=by
 obtain⟨h0,h1,h2,hf,hg,ne,lb⟩:=h;refine⟨?_, ?_, ?_,fun i=>by simp [go_sem,hf],fun i hi=>(hg i hi).of_block ?_,ne,by simpa [World.setCell] using lb⟩
 ·simp [World.cell?_setCell_other,h0]
 ·rw [World.cell?_setCell_other _ _ _ _ (off_ne (by decide))];exact h1
 ·exact World.cell?_setCell_same' _ _ _ (by rw [h2];rfl)
 ·exact Below.heap_setCell _ ⟨T,2,none⟩ _ _ (by simpa using Ne.symm ne)
structure TStep(T B:Nat)(t:Tb)(w w':World):Prop where
 past:Past [T,B] w w'
 at':TAt T B t w'
theorem TStep.of{T B:Nat}{t:Tb}{w w':World}(h:TAt T B t w)(hb:Below w.heap.size w w'):TStep T B t w w':=⟨Past.of hb,h.below hb⟩
theorem TStep.trans{T B:Nat}{t t':Tb}{x y z:World}(h:TStep T B t x y)(k:TStep T B t' y z):TStep T B t' x z:=⟨h.past.trans k.past,k.at'⟩
theorem TStep.of_g{T B:Nat}{t:Tb}{w w':World}(h:TAt T B t w){i:Nat}{g:Gp}(hs:group.GStep B (i*25) g w w'):TStep T B ⟨t.n,upd t.gs i g,t.len,t.tombs⟩ w w':=⟨hs.past.mono fun k hk=>by simp at hk ⊢;exact .inr hk,h.gstep hs⟩
theorem TStep.store{T B:Nat}{t t':Tb}{x y:World}(h:TStep T B t x y)(i:Nat)(u:Value)(k:TAt T B t' (y.setCell ⟨T,i,none⟩ u)):TStep T B t' x (y.setCell ⟨T,i,none⟩ u):=⟨h.past.store (.inl (by simp)) u,k⟩
structure TL(T B:Nat)(t:Tb)(L:Ln)(m:Mt)(w w':World):Prop where
 at':TAt T B t w'
 ln:LnStep [T,B] L m w w'
def Apart(T B:Nat)(L:Ln):Prop:=∀b∈L.d,b≠T∧b≠B
theorem Apart.t{T B:Nat}{L:Ln}(h:Apart T B L):T∉L.d:=fun e=>(h T e).1 rfl
theorem Apart.b{T B:Nat}{L:Ln}(h:Apart T B L):B∉L.d:=fun e=>(h B e).2 rfl
theorem Apart.nil(T B:Nat):Apart T B .nil:=fun b hb=>(by cases hb)
theorem TL.of{T B:Nat}{t:Tb}{L:Ln}{m:Mt}{w w':World}(h:TAt T B t w)(hl:LnAt L m w)(hb:Below w.heap.size w w'):TL T B t L m w w':=⟨h.below hb,.of _ hl hb⟩
theorem TL.trans{T B:Nat}{t t':Tb}{L:Ln}{m m':Mt}{x y z:World}(h:TL T B t L m x y)(k:TL T B t' L m' y z):TL T B t' L m' x z:=⟨k.at',h.ln.trans k.ln⟩
theorem TL.below{T B:Nat}{t:Tb}{L:Ln}{m:Mt}{x y z:World}(h:TL T B t L m x y)(k:Below y.heap.size y z):TL T B t L m x z:=⟨h.at'.below k,h.ln.below k⟩
theorem TL.look{T B:Nat}{t:Tb}{L:Ln}{m:Mt}{w w':World}(h:TAt T B t w)(ha:Apart T B L)(hs:LnStep [] L m w w'):TL T B t L m w w':=
 ⟨h.past hs.past (by simpa using ha.t) (by simpa using ha.b),hs.mono fun b hb=>(by cases hb)⟩
theorem TL.step{T B:Nat}{t t':Tb}{L:Ln}{m:Mt}{x y z:World}(h:TL T B t L m x y)(ha:Apart T B L)(k:TStep T B t' y z):TL T B t' L m x z:=
 ⟨k.at',h.ln.trans (.of_past h.ln.at' k.past fun b hb=>by have:=ha b hb;simp;exact this)⟩
end table
namespace table
open Go.ChangeShapes Go.WideShapes Go.ChangeAt Go.RowKit swar under trap meter group probe lens tail call
attribute [local go_sem] Oper.semAt_some stage.pureUpon move.stepUpon
theorem len_any(T B:Nat)(t:Tb)(w:World)(h:TAt T B t w):Calls Tryz.prog 77 #[.pointer (some ⟨T,0,none⟩)] w fun e w'=>e=.returned (.int .i64 t.len)∧w=w':=by
 have h1:=h.len
 go_enter Tryz.func77,Tryz.ntmps77
 go_wp2
 go_ret
 exact⟨rfl,rfl⟩
theorem tombs_any(T B:Nat)(t:Tb)(w:World)(h:TAt T B t w):Calls Tryz.prog 78 #[.pointer (some ⟨T,0,none⟩)] w fun e w'=>e=.returned (.int .i64 t.tombs)∧w=w':=by
 have h1:=h.tombs
 go_enter Tryz.func78,Tryz.ntmps78
 go_wp2
 go_ret
 exact⟨rfl,rfl⟩
theorem groups_any(T B:Nat)(t:Tb)(w:World)(h:TAt T B t w):Calls Tryz.prog 63 #[.pointer (some ⟨T,0,none⟩)] w fun e w'=>e=.returned (.int .i64 t.n)∧w=w':=by
 have h1:=h.row
 go_enter Tryz.func63,Tryz.ntmps63
 go_wp2
 go_ret
 exact⟨rfl,rfl⟩
theorem left_any(T B:Nat)(t:Tb)(ht:t.Ok)(w:World)(h:TAt T B t w):Calls Tryz.prog 140 #[.pointer (some ⟨T,0,none⟩)] w fun e w'=>e=.returned (.int .i64 t.left)∧∃q,w'=w.drewN q:=by
 have h0:=h.row;have h1:=h.len;have h2:=h.tombs;have hn:=okN_le ht.n;have b1:0≤t.len:=by rw [ht.len];omega
 have b2:0≤t.tombs:=by rw [ht.tombs];omega
 have b3:t.len≤8*t.n:=by rw [ht.len];have:=cntT_le 3 t;omega
 have b4:t.tombs≤8*t.n:=by rw [ht.tombs];have:=cntT_le 2 t;omega
 have e1:IntKind.i64.wrap (7*(t.n:Int))=7*(t.n:Int):=IntWalk.i64_in _ (by omega);have e2:IntKind.i64.wrap (7*(t.n:Int)-t.len)=7*(t.n:Int)-t.len:=IntWalk.i64_in _ (by omega);have e3:IntKind.i64.wrap (7*(t.n:Int)-t.len-t.tombs)=t.left:=IntWalk.i64_in _ (by omega);clear b1 b2 b3 b4 hn ht
 go_enter Tryz.func140,Tryz.ntmps140
 go_wp2
 go_quiet (fail)
 go_wp2
 go_ret
 exact⟨rfl,_,rfl⟩
theorem view_row(T B n:Nat)(i:Nat)(hi:i<n)(w:World)(h0:w.cell? ⟨T,0,none⟩=some (.slice (some ⟨B,0,none⟩) n n)):Calls Tryz.prog 85 #[.pointer (some ⟨T,0,none⟩),.int .i64 i] w fun e w'=>e=.returned (.agg #[.pointer (some ⟨B,i*25,none⟩)])∧Below w.heap.size w w':=by
 have hi':(i:Int)<n:=by omega
 have hb:=new_block w (.cells #[.pointer none] 104);have c0:=newc w (.pointer none) 104;have f0:=newf w (.pointer none) 104;have hlt:T<w.heap.size:=World.block_lt_of_cell? w _ h0
 go_enter Tryz.func85,Tryz.ntmps85
 go_wp2_with (go_at_call 96;refine (look_nil B (i*25) _).mono ?_;rintro e w' ⟨rfl,hb2⟩;have c1:=keepc hb2 c0;have f1:=keepf hb2 c0 f0)
 exact bodyPost_ret (v:=.agg #[.pointer (some ⟨B,i*25,none⟩)]) (by simp [results,Tryz.results85,go_sem,c1]) rfl ⟨rfl,(under.below_step hb hb2).setCell (by simp) _⟩
set_option maxRecDepth 20000 in
theorem look_row(T B n:Nat)(i:Nat)(hi:i<n)(L:Ln)(m:Mt)(w:World)(h0':w.cell? ⟨T,0,none⟩=some (.slice (some ⟨B,0,none⟩) n n))(hl:LnAt L m w)(ha:T∉L.d) :
  Calls Tryz.prog 183 #[.pointer (some ⟨T,0,none⟩),.agg #[.pointer L.p],.int .i64 i] w fun e w'=>e=.returned (.tuple #[.agg #[.pointer (some ⟨B,i*25,none⟩)],.nilIface])∧LnStep [] L (L.one m) w w':=by
 have d1:decide ((i:Int)<0)=false:=decide_eq_false (by omega);have d2:decide ((n:Int)≤(i:Int))=false:=decide_eq_false (by omega);have hi':(i:Int)<n:=by omega
 have hlt:T<w.heap.size:=World.block_lt_of_cell? w _ h0';have hd:=hl.lt;have c0:=newc w (.pointer L.p) 52;have c2:=newc (w.alloc (.cells #[.pointer L.p] 52)) (.pointer none) 104;have f2:=newf (w.alloc (.cells #[.pointer L.p] 52)) (.pointer none) 104;have c0':=keepc (new_block (w.alloc (.cells #[.pointer L.p] 52)) (.cells #[.pointer none] 104)) c0;have hb:=two_new w (.cells #[.pointer L.p] 52) (.cells #[.pointer none] 104);rw [World.size_alloc] at c2 f2;have HL:=Lib.hid (look_any B (i*25) L m)
 go_enter Tryz.func183,Tryz.ntmps183
 have h0:=keepc hb h0';have hl2:=hl.below hb;go_wp2;generalize (w.alloc (.cells #[.pointer L.p] 52)).alloc (.cells #[.pointer none] 104)=W at *
 have nd:∀b,w.heap.size≤b→b∉L.d:=fun b hb he=>by have:=hd b he;omega
 have hA:∀w',LnStep [] L (L.one m) W w'→∀{b k v},b∉L.d→W.cell? ⟨b,k,none⟩=some v→w'.cell? ⟨b,k,none⟩=some v:=fun w' hs b k v hb c=>hs.past.cell c (by simpa using hb)
 have q0:=CallD.cell (A:=LnStep [] L (L.one m) W) h0 (fun w' hs=>hA w' hs ha h0);have q1:=CallD.cell (A:=LnStep [] L (L.one m) W) c0' (fun w' hs=>hA w' hs (nd _ (Nat.le_refl _)) c0')
 haveI : Nonempty (stage.Un (CallD W (LnStep [] L (L.one m) W))):=⟨⟨0,W,0,rfl⟩⟩
 refine (wpIn_wide (n:=3)).1 ?_;refine move.region (D:=CallD W (LnStep [] L (L.one m) W)) 8 [false,false,false,false,false,false,false,true] (by kernel_rfl) (by kernel_rfl) (by kernel_rfl) ⟨1,rfl⟩ ?_;simp only [List.take_succ_cons,List.take_zero,List.drop_succ_cons,List.drop_zero]
 iterate 7
  refine move.pure_step (fun _ _ _=>trivial) (fun K hK=>?_);go_simp;refine hK _ ?_;clear hK K
 refine move.move_step (v:=.agg #[.pointer (some ⟨B,i*25,none⟩)]) (fun _ _ _=>trivial) (by kernel_rfl) (fun wd hd=>?_) (fun K hK=>?_)
 ·obtain⟨q,rfl⟩:=hd
  go_simp;refine callsIn_wide.2 ((HL.out (W.drewN q) (hl2.below (below_drewN' W q))).mono ?_);rintro e' w' ⟨rfl,hs⟩;exact⟨rfl,(LnStep.of [] hl2 (below_drewN' W q)).trans hs⟩
 refine hK _ ?_;clear hK K;refine move.nil_step ?_;intro w5 hs5;have hs:LnStep [] L (L.one m) W w5:=hs5;have c3:=hA w5 hs (nd _ (by omega)) c2;have f3:=pastf hs.past (by simpa using nd (w.heap.size+1) (by omega)) c2 f2;clear q0 q1 this hA hs5;gi_wp2;go_wp2;have hB:LnStep [] L (L.one m) w w5:=(LnStep.of [] hl hb).trans hs;refine bodyPost_ret (v:=.tuple #[.agg #[.pointer (some ⟨B,i*25,none⟩)],.nilIface]) (by simp [results,Tryz.results183,go_sem,c3]) rfl ⟨rfl,hB.newset hd (by simp) _⟩
abbrev spotV(T B key h a b:Nat):Value:=.agg #[.pointer (some ⟨T,0,none⟩),.int .u64 (key:Nat),.int .u64 (h:Nat),.pointer (some ⟨B,a*25,none⟩),.pointer (some ⟨B,b*25,none⟩)]
theorem szGroup:(Tryz.prog.info? 168).map (·.size)=some 25:=by kernel_rfl
theorem ptr_nil(x:Addr)(w:World):(Op.equalIn 9999 102 (.pointer (some x)) (.pointer none)).run Tryz.prog w=.ok false w:=by
 obtain⟨j,hj,_⟩:=Option.map_eq_some_iff.1 szGroup
 have h:∀d:Nat,(Op.equalIn (d+1) 102 (.pointer (some x)) (.pointer none)).run Tryz.prog w=.ok false w:=fun d=>by
  simp [Op.equalIn,run_underlying Tryz.underlying102,sizeOf,typeInfo,hj,sameAddr]
 exact h 9998
set_option maxRecDepth 20000 in
theorem nowhere_any(T B key h a b:Nat)(w:World):Calls Tryz.prog 137 #[spotV T B key h a b] w fun e w'=>e=.returned (.bool false)∧Below w.heap.size w w':=by
 have hp:=ptr_nil ⟨B,a*25,none⟩
 go_enter Tryz.func137,Tryz.ntmps137
 go_wp2
 go_ret
 exact⟨rfl,new_block w _⟩
structure Errs6(a:String→Addr)(w:World):Prop where
 two:Errs2 a w
 full : w.cell? ⟨1, 0, none⟩ = some (errs.errV (a "ambler/api.ErrFull"))
 none : w.cell? ⟨6, 0, Option.none⟩ = some (errs.errV (a "ambler/api.ErrNone"))
 kind : w.cell? ⟨13, 0, Option.none⟩ = some (errs.errV (a "ambler/api.ErrKind"))
 dup : w.cell? ⟨15, 0, Option.none⟩ = some (errs.errV (a "ambler/api.ErrDup"))
theorem Errs6.below{a:String→Addr}{w W:World}(h:Errs6 a w)(hb:Below w.heap.size w W):Errs6 a W:=
 ⟨h.two.below hb,keepc hb h.full,keepc hb h.none,keepc hb h.kind,keepc hb h.dup⟩
def Far(d:List Nat):Prop:=∀b∈d,18≤b
theorem Far.no{d:List Nat}(h:Far d){g:Nat}(hg:g<18):g∉d:=fun e=>by have:=h g e;omega
theorem tab_past{d:List Nat}{w w':World}(h:TabOk w)(hp:Past d w w')(hd:Far d):TabOk w':=
 have c:∀{i v},w.cell? ⟨17,i,Option.none⟩=some v→w'.cell? ⟨17,i,Option.none⟩=some v:=fun hc=>hp.cell hc (hd.no (by decide))
 ⟨c h.1,c h.2.1,c h.2.2.1,c h.2.2.2.1,c h.2.2.2.2.1,c h.2.2.2.2.2.1,c h.2.2.2.2.2.2.1,c h.2.2.2.2.2.2.2⟩
theorem Errs6.past{a:String→Addr}{d:List Nat}{w w':World}(h:Errs6 a w)(hp:Past d w w')(hd:Far d):Errs6 a w':=
 ⟨⟨hp.cell h.two.range (hd.no (by decide)),hp.cell h.two.state (hd.no (by decide))⟩,hp.cell h.full (hd.no (by decide)),hp.cell h.none (hd.no (by decide)),hp.cell h.kind (hd.no (by decide)),hp.cell h.dup (hd.no (by decide))⟩
theorem must_bool(b:Bool)(w:World):Calls Tryz.prog 141 #[.bool b,.nilIface] w fun e w'=>e=.returned (.bool b)∧w=w':=by
 go_enter Tryz.func141,Tryz.ntmps141
 go_wp2_with (go_at_call 83;refine (raise_nil _).mono ?_;rintro e w' ⟨rfl,rfl⟩)
 go_ret
 exact⟨rfl,rfl⟩
theorem Tb.Ok.bounds{t:Tb}(h:t.Ok):0≤t.len∧t.len≤512∧0≤t.tombs∧t.tombs≤512:=by
 have hn:=okN_le h.n;have h1:=h.len;have h2:=h.tombs;have h3:=cntT_le 3 t;have h4:=cntT_le 2 t;omega
set_option maxRecDepth 20000 in
theorem place_any(a:String→Addr)(T B:Nat)(t:Tb)(ht:t.Ok)(b k key v h:Nat)(hb:b<t.n)(hk:k<8)(h3:(t.gs b k).kind≠3)(hh:h<18446744073709551616)(w:World)(hT:TAt T B t w)(hE:Errs2 a w) :
  Calls Tryz.prog 104 #[.pointer (some ⟨T,0,none⟩),.agg #[.pointer (some ⟨B,b*25,none⟩)],.int .i64 k,group.entV key v h] w fun e w'=>e=.returned (.tuple #[])∧TStep T B (t.put b k ⟨3,key,v,h⟩) w w':=by
 obtain⟨b1,b2,b3,b4⟩:=ht.bounds;have e1:IntKind.i64.wrap (t.len+1)=t.len+1:=IntWalk.i64_in _ (by omega);have e2:IntKind.i64.wrap (t.tombs-1)=t.tombs-1:=IntWalk.i64_in _ (by omega);have hlt:=hT.lt;have c:=fun W (hbl:Below w.heap.size w W)=>put_free B (b*25) (t.gs b) k key v h hh hk (ht.gs b) (is_not' h3) W ((hT.below hbl).gs b hb) _ (hE.below hbl).state
 have hb2:=two_new w (.cells #[.pointer (some ⟨B,b*25,none⟩)] 104) (.cells #[.int .u64 (key:Nat),.int .u64 (v:Nat),.int .u64 (h:Nat)] 44);have HT:=Lib.hid (hT.below hb2);have hS:=TStep.of hT hb2;have hput:t.put b k ⟨3,key,v,h⟩=⟨t.n,upd t.gs b ((t.gs b).put k ⟨3,key,v,h⟩),t.len+1,if is 2 (t.gs b) k=true then t.tombs-1 else t.tombs⟩:=rfl;rw [hput];generalize (t.gs b).put k ⟨3,key,v,h⟩=g' at *
 cases hi:is 2 (t.gs b) k
 ·rw [hi] at c
  go_enter Tryz.func104,Tryz.ntmps104
  go_wp2_with (first
   | (go_at_call 142;refine (c _ hb2).mono ?_;rintro e w' ⟨rfl,hs⟩;have hT2:=HT.out.gstep hs;have k1:=hT2.len;have k3:=hT2.fz 1)
   | (go_at_call 141;refine (must_bool _ _).mono ?_;rintro e w' ⟨rfl,rfl⟩))
  go_end0
  exact⟨rfl,(hS.trans (.of_g HT.out hs)).store 1 _ (hT2.setLen _)⟩
 ·rw [hi] at c
  go_enter Tryz.func104,Tryz.ntmps104
  go_wp2_with (first
   | (go_at_call 142;refine (c _ hb2).mono ?_;rintro e w' ⟨rfl,hs⟩;have hT2:=HT.out.gstep hs;have k1:=hT2.len;have k2:=hT2.tombs;have k3:=hT2.fz 1;have k4:=hT2.fz 2)
   | (go_at_call 141;refine (must_bool _ _).mono ?_;rintro e w' ⟨rfl,rfl⟩))
  go_end0
  exact⟨rfl,((hS.trans (.of_g HT.out hs)).store 2 _ (hT2.setTombs _)).store 1 _ ((hT2.setTombs _).setLen _)⟩
set_option maxRecDepth 20000 in
theorem erase_at(a:String→Addr)(T B:Nat)(t:Tb)(ht:t.Ok)(b k:Nat)(hb:b<t.n)(hk:k<8)(h3:(t.gs b k).kind=3)(w:World)(hT:TAt T B t w)(hE:Errs2 a w) :
  Calls Tryz.prog 186 #[.pointer (some ⟨T,0,none⟩),.agg #[.pointer (some ⟨B,b*25,none⟩)],.int .i64 k] w fun e w'=>e=.returned (.tuple #[])∧TStep T B (t.era b k) w w':=by
 obtain⟨b1,b2,b3,b4⟩:=ht.bounds;have e1:IntKind.i64.wrap (t.len-1)=t.len-1:=IntWalk.i64_in _ (by omega);have e2:IntKind.i64.wrap (t.tombs+1)=t.tombs+1:=IntWalk.i64_in _ (by omega);have hlt:=hT.lt;have c:=fun W (hbl:Below w.heap.size w W)=>erase_full B (b*25) (t.gs b) k hk (ht.gs b) (is_of h3) W ((hT.below hbl).gs b hb) _ (hE.below hbl).state
 have hb2:=new_block w (.cells #[.pointer (some ⟨B,b*25,none⟩)] 104);have HT:=Lib.hid (hT.below hb2);have hS:=TStep.of hT hb2;have hput:t.era b k=⟨t.n,upd t.gs b ((t.gs b).put k (erased (t.gs b))),t.len-1,if opens (t.gs b)=true then t.tombs else t.tombs+1⟩:=rfl;rw [hput];generalize (t.gs b).put k (erased (t.gs b))=g' at *
 cases hi:opens (t.gs b)
 ·rw [hi] at c
  go_enter Tryz.func186,Tryz.ntmps186
  go_wp2_with (first
   | (go_at_call 193;refine (c _ hb2).mono ?_;rintro e w' ⟨rfl,hs⟩;have hT2:=HT.out.gstep hs;have k1:=hT2.len;have k2:=hT2.tombs;have k3:=hT2.fz 1;have k4:=hT2.fz 2)
   | (go_at_call 141;refine (must_bool _ _).mono ?_;rintro e w' ⟨rfl,rfl⟩))
  go_end0
  exact⟨rfl,((hS.trans (.of_g HT.out hs)).store 2 _ (hT2.setTombs _)).store 1 _ ((hT2.setTombs _).setLen _)⟩
 ·rw [hi] at c
  go_enter Tryz.func186,Tryz.ntmps186
  go_wp2_with (first
   | (go_at_call 193;refine (c _ hb2).mono ?_;rintro e w' ⟨rfl,hs⟩;have hT2:=HT.out.gstep hs;have k1:=hT2.len;have k3:=hT2.fz 1)
   | (go_at_call 141;refine (must_bool _ _).mono ?_;rintro e w' ⟨rfl,rfl⟩))
  go_end0
  exact⟨rfl,(hS.trans (.of_g HT.out hs)).store 1 _ (hT2.setLen _)⟩
structure SBox(X T B key h a b:Nat)(w:World):Prop where
 c0:w.cell? ⟨X,0,none⟩=some (.pointer (some ⟨T,0,none⟩))
 c1:w.cell? ⟨X,1,none⟩=some (.int .u64 (key:Nat))
 c2:w.cell? ⟨X,2,none⟩=some (.int .u64 (h:Nat))
 c3:w.cell? ⟨X,3,none⟩=some (.pointer (some ⟨B,a*25,none⟩))
 c4:w.cell? ⟨X,4,none⟩=some (.pointer (some ⟨B,b*25,none⟩))
theorem SBox.new(T B key h a b:Nat)(w:World):SBox w.heap.size T B key h a b (w.alloc (.cells #[.pointer (some ⟨T,0,none⟩),.int .u64 (key:Nat),.int .u64 (h:Nat),.pointer (some ⟨B,a*25,none⟩),.pointer (some ⟨B,b*25,none⟩)] 106)):=by
 have hr:=World.alloc_heap_new w (.cells #[.pointer (some ⟨T,0,none⟩),.int .u64 (key:Nat),.int .u64 (h:Nat),.pointer (some ⟨B,a*25,none⟩),.pointer (some ⟨B,b*25,none⟩)] 106);constructor <;> (rw [cell_of_row _ _ _ _ _ _ hr];rfl)
theorem SBox.keep{X T B key h a b:Nat}{w w':World}(s:SBox X T B key h a b w)(hb:Below w.heap.size w w'):SBox X T B key h a b w':=⟨keepc hb s.c0,keepc hb s.c1,keepc hb s.c2,keepc hb s.c3,keepc hb s.c4⟩
theorem SBox.past{X T B key h a b:Nat}{w w':World}{d:List Nat}(s:SBox X T B key h a b w)(hp:Past d w w')(hX:X∉d):SBox X T B key h a b w':=⟨hp.cell s.c0 hX,hp.cell s.c1 hX,hp.cell s.c2 hX,hp.cell s.c3 hX,hp.cell s.c4 hX⟩
theorem SBox.two(T B key h a b:Nat)(w:World)(v:Value)(t:TypeId) :
  SBox w.heap.size T B key h a b ((w.alloc (.cells #[.pointer (some ⟨T,0,none⟩),.int .u64 (key:Nat),.int .u64 (h:Nat),.pointer (some ⟨B,a*25,none⟩),.pointer (some ⟨B,b*25,none⟩)] 106)).alloc (.cells #[v] t)) ∧
  Var (w.heap.size+1) v ((w.alloc (.cells #[.pointer (some ⟨T,0,none⟩),.int .u64 (key:Nat),.int .u64 (h:Nat),.pointer (some ⟨B,a*25,none⟩),.pointer (some ⟨B,b*25,none⟩)] 106)).alloc (.cells #[v] t)) ∧
  Below w.heap.size w ((w.alloc (.cells #[.pointer (some ⟨T,0,none⟩),.int .u64 (key:Nat),.int .u64 (h:Nat),.pointer (some ⟨B,a*25,none⟩),.pointer (some ⟨B,b*25,none⟩)] 106)).alloc (.cells #[v] t)):=by
 have h2:=Var.new (w.alloc (.cells #[.pointer (some ⟨T,0,none⟩),.int .u64 (key:Nat),.int .u64 (h:Nat),.pointer (some ⟨B,a*25,none⟩),.pointer (some ⟨B,b*25,none⟩)] 106)) v t;rw [World.size_alloc] at h2;exact⟨(SBox.new T B key h a b w).keep (new_block _ _),h2,two_new w _ _⟩
set_option maxRecDepth 20000 in
theorem stands_yes(T B:Nat)(t:Tb)(ht:t.Ok)(key h a b k:Nat)(ha:a<t.n)(hh:h<18446744073709551616)(hf:find key h (t.gs a)=(k:Nat))(w:World)(hT:TAt T B t w)(hX:TabOk w) :
  Calls Tryz.prog 100 #[spotV T B key h a b] w fun e w'=>e=.returned (.tuple #[.agg #[.pointer (some ⟨B,a*25,none⟩)],.int .i64 k])∧Below w.heap.size w w':=by
 have c1:=nowhere_any T B key h a b;have c2:=fun W (hb:Below w.heap.size w W)=>find_any B (a*25) (t.gs a) key h hh (ht.gs a) W ((hT.below hb).gs a ha) (hX.below hb hX.lt)
 rw [hf] at c2;have d1:decide (0≤((k:Nat):Int))=true:=decide_eq_true (by omega);obtain⟨hS,hV,hB⟩:=SBox.two T B key h a b w (.pointer none) 104
 go_enter Tryz.func100,Tryz.ntmps100
 go_wp2_with (first
  | (go_at_call 137;refine (c1 _).mono ?_;rintro e w1 ⟨rfl,hb1⟩;have hS1:=hS.keep hb1;have hV1:=hV.below hb1;have hB1:=under.below_step hB hb1;have x1:=hS1.c1;have x2:=hS1.c2;have x3:=hS1.c3)
  | (go_at_call 99;refine (c2 _ hB1).mono ?_;rintro e w2 ⟨rfl,hb2⟩;have y3:=(hS1.keep hb2).c3;have y4:=(hV1.below hb2).cell;have y5:=(hV1.below hb2).frozen;have hB2:=under.below_step hB1 hb2))
 exact bodyPost_ret (v:=.tuple #[.agg #[.pointer (some ⟨B,a*25,none⟩)],.int .i64 k]) (by simp [results,Tryz.results100,go_sem,y4]) rfl ⟨rfl,hB2.setCell (by simp) _⟩
set_option maxRecDepth 20000 in
theorem stands_no(T B:Nat)(t:Tb)(ht:t.Ok)(key h a b:Nat)(ha:a<t.n)(hb':b<t.n)(hh:h<18446744073709551616)(hf:find key h (t.gs a)=-1)(hf2:find key h (t.gs b)=-1)(w:World)(hT:TAt T B t w)(hX:TabOk w) :
  Calls Tryz.prog 100 #[spotV T B key h a b] w fun e w'=>e=.returned (.tuple #[.agg #[.pointer (some ⟨B,b*25,none⟩)],.int .i64 (-1)])∧Below w.heap.size w w':=by
 have c1:=nowhere_any T B key h a b;have c2:=fun W (hb:Below w.heap.size w W)=>find_any B (a*25) (t.gs a) key h hh (ht.gs a) W ((hT.below hb).gs a ha) (hX.below hb hX.lt)
 rw [hf] at c2;have c3:=fun W (hb:Below w.heap.size w W)=>find_any B (b*25) (t.gs b) key h hh (ht.gs b) W ((hT.below hb).gs b hb') (hX.below hb hX.lt)
 rw [hf2] at c3;obtain⟨hS,hV,hB⟩:=SBox.two T B key h a b w (.pointer none) 104
 go_enter Tryz.func100,Tryz.ntmps100
 go_wp2_with (first
  | (go_at_call 137;refine (c1 _).mono ?_;rintro e w1 ⟨rfl,hb1⟩;have hS1:=hS.keep hb1;have hV1:=hV.below hb1;have hB1:=under.below_step hB hb1;have x1:=hS1.c1;have x2:=hS1.c2;have x3:=hS1.c3)
  | (go_at_call 99;refine (c2 _ hB1).mono ?_;rintro e w2 ⟨rfl,hb2⟩;have hS2:=hS1.keep hb2;have hV2:=hV1.below hb2;have hB2:=under.below_step hB1 hb2;clear x1 x2 x3))
 have c4:=fun n:Under w2=>c3 n.W (under.below_step hB2 n.below)
 have u1:=Under.cell hS2.c1;have u2:=Under.cell hS2.c2;have u4:=Under.cell hS2.c4;refine wp_region_tail_under 9 (by kernel_rfl) (by kernel_rfl) ?_;simp only [List.take_succ_cons,List.take_zero,List.drop_succ_cons,List.drop_zero]
 repeat (quiet_step ((go_at_call 99;exact under_call (c4 _))))
 refine wpQuiet_nil ?_;intro w4 hw4;obtain⟨n4,rfl⟩:=hw4;have hB4:=under.below_step hB2 n4.below;have hV4:=hV2.below n4.below;have y4:=hV4.cell;have y5:=hV4.frozen;go_wp2;exact bodyPost_ret (v:=.tuple #[.agg #[.pointer (some ⟨B,b*25,none⟩)],.int .i64 (-1)]) (by simp [results,Tryz.results100,go_sem,y4]) rfl ⟨rfl,hB4.setCell (by simp) _⟩
structure EBox(X k v h:Nat)(w:World):Prop where
 c0:w.cell? ⟨X,0,none⟩=some (.int .u64 (k:Nat))
 c1:w.cell? ⟨X,1,none⟩=some (.int .u64 (v:Nat))
 c2:w.cell? ⟨X,2,none⟩=some (.int .u64 (h:Nat))
 fz:∀i,w.frozen? ⟨X,i,none⟩=false
theorem EBox.new(k v h:Nat)(w:World):EBox w.heap.size k v h (w.alloc (.cells #[.int .u64 (k:Nat),.int .u64 (v:Nat),.int .u64 (h:Nat)] 44)):=by
 have hr:=World.alloc_heap_new w (.cells #[.int .u64 (k:Nat),.int .u64 (v:Nat),.int .u64 (h:Nat)] 44);refine⟨?_, ?_, ?_,fun i=>frozen_of_row _ _ i _ _ hr⟩ <;> (rw [cell_of_row _ _ _ _ _ _ hr];rfl)
theorem EBox.lt{X k v h:Nat}{w:World}(s:EBox X k v h w):X<w.heap.size:=World.block_lt_of_cell? w _ s.c0
theorem EBox.of_block{X k v h:Nat}{w w':World}(s:EBox X k v h w)(he:w'.heap[X]?=w.heap[X]?):EBox X k v h w':=
 ⟨(World.cell?_of_block (w:=w) he).trans s.c0,(World.cell?_of_block (w:=w) he).trans s.c1,(World.cell?_of_block (w:=w) he).trans s.c2,fun i=>(World.frozen?_of_block (w:=w) he).trans (s.fz i)⟩
theorem EBox.keep{X k v h:Nat}{w w':World}(s:EBox X k v h w)(hb:Below w.heap.size w w'):EBox X k v h w':=s.of_block (hb.block X s.lt)
theorem EBox.past{X k v h:Nat}{w w':World}{d:List Nat}(s:EBox X k v h w)(hp:Past d w w')(hX:X∉d):EBox X k v h w':=s.of_block (hp.block X s.lt hX)
abbrev boxS(T B key h a b:Nat)(w:World):World:=w.alloc (.cells #[.pointer (some ⟨T,0,none⟩),.int .u64 (key:Nat),.int .u64 (h:Nat),.pointer (some ⟨B,a*25,none⟩),.pointer (some ⟨B,b*25,none⟩)] 106)
theorem EBox.second(k v h:Nat)(w:World)(o:Obj):EBox (w.heap.size+1) k v h ((w.alloc o).alloc (.cells #[.int .u64 (k:Nat),.int .u64 (v:Nat),.int .u64 (h:Nat)] 44)):=by
 have:=EBox.new k v h (w.alloc o)
 rwa [World.size_alloc] at this
set_option maxRecDepth 20000 in
theorem entry_yes(ae:String→Addr)(T B:Nat)(t:Tb)(ht:t.Ok)(key h a b k:Nat)(ha:a<t.n)(hk:k<8)(h3:(t.gs a k).kind=3)(hh:h<18446744073709551616)(hf:find key h (t.gs a)=(k:Nat))(w:World)(hT:TAt T B t w)(hX:TabOk w)(hE:Errs2 ae w) :
  Calls Tryz.prog 102 #[spotV T B key h a b] w fun e w'=>e=.returned (.tuple #[group.entV (t.gs a k).key (t.gs a k).val (t.gs a k).hash,.bool true])∧Below w.heap.size w w':=by
 have c1:=fun W (hb:Below w.heap.size w W)=>stands_yes T B t ht key h a b k ha hh hf W (hT.below hb) (hX.below hb hX.lt)
 have c2:=fun W (hb:Below w.heap.size w W)=>at_is B (a*25) (t.gs a) k hk (ht.gs a) W ((hT.below hb).gs a ha) _ (hE.below hb).state
 rw [is_of h3] at c2;have d1:decide (((k:Nat):Int)<0)=false:=decide_eq_false (by omega);generalize t.gs a k=sl at *
 have hV:=EBox.second 0 0 0 w (.cells #[.pointer (some ⟨T,0,none⟩),.int .u64 (key:Nat),.int .u64 (h:Nat),.pointer (some ⟨B,a*25,none⟩),.pointer (some ⟨B,b*25,none⟩)] 106)
 go_enter Tryz.func102,Tryz.ntmps102
 go_wp2_with (first
  | (go_at_call 100;refine (c1 _ (two_new w _ _)).mono ?_;rintro e w1 ⟨rfl,hb1⟩;have hB1:=under.below_step (two_new w _ _) hb1)
  | (go_at_call 139;refine (c2 _ (under.below_step hB1 (new_block _ _))).mono ?_;rintro e w2 ⟨rfl,hb2⟩;have hB3:=under.below_step (new_block _ _) hb2;have hB2:=under.below_step hB1 hB3;have hV2:=(hV.keep hb1).keep hB3;have y0:=hV2.c0;have y1:=hV2.c1;have y2:=hV2.c2;have y3:=hV2.fz))
 exact bodyPost_ret (v:=.tuple #[group.entV sl.key sl.val sl.hash,.bool true]) (by simp [results,Tryz.results102,go_sem,y0,y1,y2]) rfl ⟨rfl,((hB2.setCell (by simp) _).setCell (by simp) _).setCell (by simp) _⟩
set_option maxRecDepth 20000 in
theorem entry_no(T B:Nat)(t:Tb)(ht:t.Ok)(key h a b:Nat)(ha:a<t.n)(hb':b<t.n)(hh:h<18446744073709551616)(hf:find key h (t.gs a)=-1)(hf2:find key h (t.gs b)=-1)(w:World)(hT:TAt T B t w)(hX:TabOk w) :
  Calls Tryz.prog 102 #[spotV T B key h a b] w fun e w'=>e=.returned (.tuple #[group.entV 0 0 0,.bool false])∧Below w.heap.size w w':=by
 have c1:=fun W (hb:Below w.heap.size w W)=>stands_no T B t ht key h a b ha hb' hh hf hf2 W (hT.below hb) (hX.below hb hX.lt)
 have hV:=EBox.second 0 0 0 w (.cells #[.pointer (some ⟨T,0,none⟩),.int .u64 (key:Nat),.int .u64 (h:Nat),.pointer (some ⟨B,a*25,none⟩),.pointer (some ⟨B,b*25,none⟩)] 106)
 go_enter Tryz.func102,Tryz.ntmps102
 go_wp2_with (go_at_call 100;refine (c1 _ (two_new w _ _)).mono ?_;rintro e w1 ⟨rfl,hb1⟩;have hB1:=under.below_step (two_new w _ _) hb1;have hV2:=(hV.keep hb1).keep (new_block w1 (.cells #[.pointer (some ⟨B,b*25,none⟩)] 104));have y0:=hV2.c0;have y1:=hV2.c1;have y2:=hV2.c2;have y3:=hV2.fz)
 exact bodyPost_ret (v:=.tuple #[group.entV 0 0 0,.bool false]) (by simp [results,Tryz.results102,go_sem,y0,y1,y2]) rfl ⟨rfl,(((under.below_step hB1 (new_block _ _)).setCell (by simp) _).setCell (by simp) _).setCell (by simp) _⟩
set_option maxRecDepth 20000 in
theorem replace_yes(ae:String→Addr)(T B:Nat)(t:Tb)(ht:t.Ok)(key h a b k v:Nat)(ha:a<t.n)(hk:k<8)(h3:(t.gs a k).kind=3)(hh:h<18446744073709551616)(hf:find key h (t.gs a)=(k:Nat))(w:World)(hT:TAt T B t w)(hX:TabOk w)(hE:Errs2 ae w) :
  Calls Tryz.prog 47 #[spotV T B key h a b,.int .u64 v] w fun e w'=>e=.returned .nilIface∧TStep T B (t.val a k v) w w':=by
 have c1:=fun W (hb:Below w.heap.size w W)=>stands_yes T B t ht key h a b k ha hh hf W (hT.below hb) (hX.below hb hX.lt)
 have c2:=fun W (hb:Below w.heap.size w W)=>val_full B (a*25) (t.gs a) k v hk (ht.gs a) (is_of h3) W ((hT.below hb).gs a ha) _ (hE.below hb).state
 have d1:decide (((k:Nat):Int)<0)=false:=decide_eq_false (by omega);have hval:t.val a k v=⟨t.n,upd t.gs a ((t.gs a).put k { t.gs a k with val:=v }),t.len,t.tombs⟩:=rfl;rw [hval];generalize (t.gs a).put k { t.gs a k with val:=v }=g' at *
 go_enter Tryz.func47,Tryz.ntmps47
 go_wp2_with (first
  | (go_at_call 100;refine (c1 _ (new_block w _)).mono ?_;rintro e w1 ⟨rfl,hb1⟩;have hB1:=under.below_step (new_block w _) hb1;have hB3:=under.below_step hB1 (new_block w1 (.cells #[.pointer (some ⟨B,a*25,none⟩)] 104)))
  | (go_at_call 101;refine (c2 _ hB3).mono ?_;rintro e w2 ⟨rfl,hs⟩))
 go_ret
 exact⟨rfl,(TStep.of hT hB3).trans (.of_g (hT.below hB3) hs)⟩
set_option maxRecDepth 20000 in
theorem replace_no(ae:String→Addr)(T B:Nat)(t:Tb)(ht:t.Ok)(key h a b v:Nat)(ha:a<t.n)(hb':b<t.n)(hh:h<18446744073709551616)(hf:find key h (t.gs a)=-1)(hf2:find key h (t.gs b)=-1)(w:World)(hT:TAt T B t w)(hX:TabOk w)(hE:Errs6 ae w) :
  Calls Tryz.prog 47 #[spotV T B key h a b, .int .u64 v] w fun e w' => e = .returned (errs.errV (ae "ambler/api.ErrNone")) ∧ Below w.heap.size w w' := by
 have c1:=fun W (hb:Below w.heap.size w W)=>stands_no T B t ht key h a b ha hb' hh hf hf2 W (hT.below hb) (hX.below hb hX.lt)
 go_enter Tryz.func47,Tryz.ntmps47
 go_wp2_with (go_at_call 100;refine (c1 _ (new_block w _)).mono ?_;rintro e w1 ⟨rfl,hb1⟩;have hB1:=under.below_step (new_block w _) hb1;have y0:=(hE.below (under.below_step hB1 (new_block w1 (.cells #[.pointer (some ⟨B,b*25,none⟩)] 104)))).none)
 go_ret
 exact⟨rfl,under.below_step hB1 (new_block _ _)⟩
set_option maxRecDepth 20000 in
theorem remove_yes(ae:String→Addr)(T B:Nat)(t:Tb)(ht:t.Ok)(key h a b k:Nat)(ha:a<t.n)(hk:k<8)(h3:(t.gs a k).kind=3)(hh:h<18446744073709551616)(hf:find key h (t.gs a)=(k:Nat))(w:World)(hT:TAt T B t w)(hX:TabOk w)(hE:Errs2 ae w) :
  Calls Tryz.prog 192 #[spotV T B key h a b] w fun e w'=>e=.returned .nilIface∧TStep T B (t.era a k) w w':=by
 have c1:=fun W (hb:Below w.heap.size w W)=>stands_yes T B t ht key h a b k ha hh hf W (hT.below hb) (hX.below hb hX.lt)
 have c2:=fun W (hb:Below w.heap.size w W)=>erase_at ae T B t ht a k ha hk h3 W (hT.below hb) (hE.below hb)
 have d1:decide (((k:Nat):Int)<0)=false:=decide_eq_false (by omega);have hS:=SBox.new T B key h a b w
 go_enter Tryz.func192,Tryz.ntmps192
 go_wp2_with (first
  | (go_at_call 100;refine (c1 _ (new_block w _)).mono ?_;rintro e w1 ⟨rfl,hb1⟩;have hB1:=under.below_step (new_block w _) hb1;have y0:=((hS.keep hb1).keep (new_block w1 (.cells #[.pointer (some ⟨B,a*25,none⟩)] 104))).c0;have hB3:=under.below_step hB1 (new_block w1 (.cells #[.pointer (some ⟨B,a*25,none⟩)] 104)))
  | (go_at_call 186;refine (c2 _ hB3).mono ?_;rintro e w2 ⟨rfl,hs⟩))
 go_ret
 exact⟨rfl,(TStep.of hT hB3).trans hs⟩
set_option maxRecDepth 20000 in
theorem remove_no(ae:String→Addr)(T B:Nat)(t:Tb)(ht:t.Ok)(key h a b:Nat)(ha:a<t.n)(hb':b<t.n)(hh:h<18446744073709551616)(hf:find key h (t.gs a)=-1)(hf2:find key h (t.gs b)=-1)(w:World)(hT:TAt T B t w)(hX:TabOk w)(hE:Errs6 ae w) :
  Calls Tryz.prog 192 #[spotV T B key h a b] w fun e w' => e = .returned (errs.errV (ae "ambler/api.ErrNone")) ∧ Below w.heap.size w w' := by
 have c1:=fun W (hb:Below w.heap.size w W)=>stands_no T B t ht key h a b ha hb' hh hf hf2 W (hT.below hb) (hX.below hb hX.lt)
 go_enter Tryz.func192,Tryz.ntmps192
 go_wp2_with (go_at_call 100;refine (c1 _ (new_block w _)).mono ?_;rintro e w1 ⟨rfl,hb1⟩;have hB1:=under.below_step (new_block w _) hb1;have y0:=(hE.below (under.below_step hB1 (new_block w1 (.cells #[.pointer (some ⟨B,b*25,none⟩)] 104)))).none)
 go_ret
 exact⟨rfl,under.below_step hB1 (new_block _ _)⟩
set_option maxRecDepth 20000 in
theorem free_none(T B:Nat)(t:Tb)(ht:t.Ok)(key h a b:Nat)(hl:t.left<1)(w:World)(hT:TAt T B t w) :
  Calls Tryz.prog 103 #[spotV T B key h a b] w fun e w'=>e=.returned (.int .i64 (-1))∧Below w.heap.size w w':=by
 have c1:=nowhere_any T B key h a b;have c2:=fun W (hb:Below w.heap.size w W)=>left_any T B t ht W (hT.below hb)
 have d1:decide (t.left<1)=true:=decide_eq_true hl;have hS:=SBox.new T B key h a b w
 go_enter Tryz.func103,Tryz.ntmps103
 go_wp2_with (first
  | (go_at_call 137;refine (c1 _).mono ?_;rintro e w1 ⟨rfl,hb1⟩;have hB1:=under.below_step (new_block w _) hb1;have y0:=(hS.keep hb1).c0)
  | (go_at_call 140;refine (c2 _ hB1).mono ?_;rintro e w2 ⟨rfl,q,rfl⟩))
 go_ret
 exact⟨rfl,under.below_step hB1 (below_drewN' _ q)⟩
set_option maxRecDepth 20000 in
theorem free_some(T B:Nat)(t:Tb)(ht:t.Ok)(key h a b:Nat)(hb':b<t.n)(hl:¬t.left<1)(w:World)(hT:TAt T B t w)(hX:TabOk w) :
  Calls Tryz.prog 103 #[spotV T B key h a b] w fun e w'=>e=.returned (.int .i64 (least (t.gs b)))∧Below w.heap.size w w':=by
 have c1:=nowhere_any T B key h a b;have c2:=fun W (hb:Below w.heap.size w W)=>left_any T B t ht W (hT.below hb)
 have c3:=fun W (hb:Below w.heap.size w W)=>free_any B (b*25) (t.gs b) (ht.gs b) W ((hT.below hb).gs b hb') (hX.below hb hX.lt)
 have d1:decide (t.left<1)=false:=decide_eq_false hl;have hS:=SBox.new T B key h a b w
 go_enter Tryz.func103,Tryz.ntmps103
 go_wp2_with (first
  | (go_at_call 137;refine (c1 _).mono ?_;rintro e w1 ⟨rfl,hb1⟩;have hB1:=under.below_step (new_block w _) hb1;have y0:=(hS.keep hb1).c0)
  | (go_at_call 140;refine (c2 _ hB1).mono ?_;rintro e w2 ⟨rfl,q,rfl⟩;have hB2:=under.below_step hB1 (below_drewN' w1 q);have y4:=((hS.keep hb1).keep (below_drewN' w1 q)).c4)
  | (go_at_call 97;refine (c3 _ hB2).mono ?_;rintro e w3 ⟨rfl,hb3⟩))
 go_ret
 exact⟨rfl,under.below_step hB2 hb3⟩
set_option maxRecDepth 20000 in
theorem place_dup(ae:String→Addr)(T B:Nat)(t:Tb)(ht:t.Ok)(key h a b k:Nat)(ha:a<t.n)(hk:k<8)(h3:(t.gs a k).kind=3)(hh:h<18446744073709551616)(hf:find key h (t.gs a)=(k:Nat))(w:World)(hT:TAt T B t w)(hX:TabOk w)(hE:Errs6 ae w)(k2 v2 h2:Nat) :
  Calls Tryz.prog 48 #[spotV T B key h a b, group.entV k2 v2 h2] w fun e w' => e = .returned (errs.errV (ae "ambler/api.ErrDup")) ∧ Below w.heap.size w w' := by
 have c1:=fun W (hb:Below w.heap.size w W)=>entry_yes ae T B t ht key h a b k ha hk h3 hh hf W (hT.below hb) (hX.below hb hX.lt) (hE.below hb).two
 generalize t.gs a k=sl at *
 go_enter Tryz.func48,Tryz.ntmps48
 go_wp2_with (go_at_call 102;refine (c1 _ (two_new w _ _)).mono ?_;rintro e w1 ⟨rfl,hb1⟩;have hB1:=under.below_step (under.below_step (two_new w _ _) hb1) (new_block w1 (.cells #[.int .u64 (sl.key:Nat),.int .u64 (sl.val:Nat),.int .u64 (sl.hash:Nat)] 44));have y0:=(hE.below hB1).dup)
 go_ret
 exact⟨rfl,hB1⟩
theorem boxes3(T B key h a b k2 v2 h2:Nat){w w1:World}(hb1:Below ((boxS T B key h a b w).alloc (.cells #[.int .u64 (k2:Nat),.int .u64 (v2:Nat),.int .u64 (h2:Nat)] 44)).heap.size ((boxS T B key h a b w).alloc (.cells #[.int .u64 (k2:Nat),.int .u64 (v2:Nat),.int .u64 (h2:Nat)] 44)) w1)(o:Obj) :
  Below w.heap.size w (w1.alloc o)∧SBox w.heap.size T B key h a b (w1.alloc o)∧EBox (w.heap.size+1) k2 v2 h2 (w1.alloc o):=by
 have hB:=two_new w (.cells #[.pointer (some ⟨T,0,none⟩),.int .u64 (key:Nat),.int .u64 (h:Nat),.pointer (some ⟨B,a*25,none⟩),.pointer (some ⟨B,b*25,none⟩)] 106) (.cells #[.int .u64 (k2:Nat),.int .u64 (v2:Nat),.int .u64 (h2:Nat)] 44);have h1:=under.below_step hb1 (new_block w1 o);exact⟨under.below_step hB h1,((SBox.new T B key h a b w).keep (new_block _ _)).keep h1,(EBox.second k2 v2 h2 w _).keep h1⟩
set_option maxRecDepth 20000 in
theorem place_full(ae:String→Addr)(T B:Nat)(t:Tb)(ht:t.Ok)(key h a b v:Nat)(ha:a<t.n)(hb':b<t.n)(hh:h<18446744073709551616)(hf:find key h (t.gs a)=-1)(hf2:find key h (t.gs b)=-1)(hl:t.left<1∨least (t.gs b)<0)(w:World)(hT:TAt T B t w)(hX:TabOk w)(hE:Errs6 ae w) :
  Calls Tryz.prog 48 #[spotV T B key h a b, group.entV key v h] w fun e w' => e = .returned (errs.errV (ae "ambler/api.ErrFull")) ∧ Below w.heap.size w w' := by
 have c1:=fun W (hb:Below w.heap.size w W)=>entry_no T B t ht key h a b ha hb' hh hf hf2 W (hT.below hb) (hX.below hb hX.lt)
 have c2:∀W,Below w.heap.size w W→Calls Tryz.prog 103 #[spotV T B key h a b] W fun e w'=>e=.returned (.int .i64 (-1))∧Below W.heap.size W w':=fun W hb=>by
  by_cases h1:t.left<1
  ·exact free_none T B t ht key h a b h1 W (hT.below hb)
  ·have h2:least (t.gs b)=-1:=by
    rcases hl with h'|h'
    ·exact absurd h' h1
    ·rcases least_cases (t.gs b) with⟨e,_⟩|⟨k,_,e,_⟩
     ·exact e
     ·omega
   have:=free_some T B t ht key h a b hb' h1 W (hT.below hb) (hX.below hb hX.lt)
   rwa [h2] at this
 go_enter Tryz.func48,Tryz.ntmps48
 go_wp2_with (first
  | (go_at_call 102;refine (c1 _ (two_new w _ _)).mono ?_;rintro e w1 ⟨rfl,hb1⟩;obtain⟨hB1,hS,hV⟩:=boxes3 T B key h a b key v h hb1 (.cells #[.int .u64 0,.int .u64 0,.int .u64 0] 44);have y0:=hV.c0;have y1:=hS.c1;have y2:=hV.c2;have y3:=hS.c2;have z0:=hS.c0;have z3:=hS.c3;have z4:=hS.c4)
  | (go_at_call 103;refine (c2 _ hB1).mono ?_;rintro e w2 ⟨rfl,hb2⟩;have hB2:=under.below_step hB1 hb2;have y5:=(hE.below hB2).full))
 go_ret
 exact⟨rfl,hB2⟩
set_option maxRecDepth 20000 in
theorem place_ok(ae:String→Addr)(T B:Nat)(t:Tb)(ht:t.Ok)(key h a b v k:Nat)(ha:a<t.n)(hb':b<t.n)(hh:h<18446744073709551616)(hf:find key h (t.gs a)=-1)(hf2:find key h (t.gs b)=-1)(hl:¬t.left<1)(hk:k<8)(hlk:least (t.gs b)=(k:Nat))(h3:(t.gs b k).kind≠3)(w:World)(hT:TAt T B t w)(hX:TabOk w)(hE:Errs6 ae w) :
  Calls Tryz.prog 48 #[spotV T B key h a b,group.entV key v h] w fun e w'=>e=.returned .nilIface∧TStep T B (t.put b k ⟨3,key,v,h⟩) w w':=by
 have c1:=fun W (hb:Below w.heap.size w W)=>entry_no T B t ht key h a b ha hb' hh hf hf2 W (hT.below hb) (hX.below hb hX.lt)
 have c2:=fun W (hb:Below w.heap.size w W)=>free_some T B t ht key h a b hb' hl W (hT.below hb) (hX.below hb hX.lt)
 rw [hlk] at c2;have c3:=fun W (hb:Below w.heap.size w W)=>place_any ae T B t ht b k key v h hb' hk h3 hh W (hT.below hb) (hE.below hb).two
 have d1:decide (((k:Nat):Int)<0)=false:=decide_eq_false (by omega);generalize t.put b k ⟨3,key,v,h⟩=t' at *
 go_enter Tryz.func48,Tryz.ntmps48
 go_wp2_with (first
  | (go_at_call 102;refine (c1 _ (two_new w _ _)).mono ?_;rintro e w1 ⟨rfl,hb1⟩;obtain⟨hB1,hS,hV⟩:=boxes3 T B key h a b key v h hb1 (.cells #[.int .u64 0,.int .u64 0,.int .u64 0] 44);have y0:=hV.c0;have y1:=hS.c1;have y2:=hV.c2;have y3:=hS.c2;have z0:=hS.c0;have z3:=hS.c3;have z4:=hS.c4)
  | (go_at_call 103;refine (c2 _ hB1).mono ?_;rintro e w2 ⟨rfl,hb2⟩;have hB2:=under.below_step hB1 hb2;have u0:=(hS.keep hb2).c0;have u4:=(hS.keep hb2).c4;have v0:=(hV.keep hb2).c0;have v1:=(hV.keep hb2).c1;have v2:=(hV.keep hb2).c2)
  | (go_at_call 104;refine (c3 _ hB2).mono ?_;rintro e w3 ⟨rfl,hs⟩))
 go_ret
 exact⟨rfl,(TStep.of hT hB2).trans hs⟩
end table
end Go.Proofs.YtdplhgpeggcmdaaGreatDoor
