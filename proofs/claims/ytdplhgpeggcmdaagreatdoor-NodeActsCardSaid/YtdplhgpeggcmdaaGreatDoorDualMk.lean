/- DualMk: facts and laws for the walks. -/
import Derived.Test.YtdplhgpeggcmdaaGreatDoorDualFd
namespace Go.Proofs.YtdplhgpeggcmdaaGreatDoor
set_option linter.unusedSimpArgs false
set_option linter.unusedVariables false
open Go.ChangeShapes Go.WideShapes Go.ChangeAt Go.RowKit Go.Shelf swar under trap meter group probe lens tail call table evac
namespace dual
attribute [local go_sem] Oper.semAt_some stage.pureUpon move.stepUpon
section
variable {D g dn:Nat} {dp:Int} {sB sT:Value} {pm:Option Addr} {sU:Value} {w:World}
set_option maxRecDepth 20000 in
theorem ready_any(h:DRow D g dn dp sB sT pm sU w):Calls Tryz.prog 120 #[.pointer (some ⟨D,0,none⟩)] w fun e w'=>e=.returned (.bool pm.isSome)∧w=w':=by
 have h5:=h.c5;have hs:=ev_some;have hn:=ev_none;clear h;cases pm with
 | none =>
  go_enter Tryz.func120,Tryz.ntmps120
  go_wp2
  go_ret
  exact⟨rfl,rfl⟩
 | some x =>
  go_enter Tryz.func120,Tryz.ntmps120
  go_wp2
  go_ret
  exact⟨rfl,rfl⟩
theorem groups_any(h:DRow D g dn dp sB sT pm sU w):Calls Tryz.prog 217 #[.pointer (some ⟨D,0,none⟩)] w fun e w'=>e=.returned (.int .i64 (g:Nat))∧w=w':=by
 have h0:=h.c0;clear h
 go_enter Tryz.func217,Tryz.ntmps217
 go_wp2
 go_ret
 exact⟨rfl,rfl⟩
set_option maxRecDepth 20000 in
theorem left_any(hq:dn≤g)(hg:g≤1000)(h:DRow D g dn dp sB sT pm sU w):Calls Tryz.prog 81 #[.pointer (some ⟨D,0,none⟩)] w fun e w'=>e=.returned (.int .i64 ((g-dn:Nat):Int))∧Below w.heap.size w w':=by
 have h0:=h.c0;have h1:=h.c1;have e1:IntKind.i64.wrap ((g:Int)-(dn:Int))=((g-dn:Nat):Int):=by rw [IntWalk.i64_in _ (by omega)];omega
 clear h
 go_enter Tryz.func81,Tryz.ntmps81
 go_wp2
 go_quiet (fail)
 go_wp2
 go_ret
 exact⟨rfl,below_drewN' _ _⟩
set_option maxRecDepth 20000 in
theorem where_no{o:Option Addr}{n c:Nat}(h:DRow D g dn dp sB (.slice o n c) none sU w)(hs:Nat):Calls Tryz.prog 93 #[.pointer (some ⟨D,0,none⟩),.int .u64 (hs:Nat)] w fun e w'=>e=.returned (.slice o n c)∧w=w':=by
 have c0:=ready_any h;have h4:=h.c4;rw [show (none:Option Addr).isSome=false from rfl] at c0;clear h
 go_enter Tryz.func93,Tryz.ntmps93
 go_wp2_with (go_at_call 120;refine c0.mono ?_;rintro e w1 ⟨rfl,rfl⟩)
 go_ret
 exact⟨rfl,rfl⟩
set_option maxRecDepth 20000 in
theorem where_yes{Y:Lay}{V d nx GT NT cT:Nat}(hN:Y.N=2∨Y.N=3)(hd:d≤15)(hNT:1≤NT)(h:DRow D g dn dp sB (.slice (some ⟨GT,0,none⟩) NT cT) (some ⟨V,0,none⟩) sU w)(hE:EvAt V Y d nx w)(hg:w.cell? ⟨GT,0,none⟩=some (.pointer (some ⟨Y.T 0,0,none⟩)))(hs:Nat)(hh:hs<18446744073709551616):Calls Tryz.prog 93 #[.pointer (some ⟨D,0,none⟩),.int .u64 (hs:Nat)] w fun e w'=>∃A,e=.returned (.slice (some ⟨A,0,none⟩) 2 2)∧w'.cell? ⟨A,0,none⟩=some (.pointer (some ⟨Y.T (tgt Y.N d hs),0,none⟩))∧w'.cell? ⟨A,1,none⟩=some (.pointer (some ⟨Y.T 0,0,none⟩))∧w.heap.size≤A∧Below w.heap.size w w':=by
 have c0:=ready_any h;have y4:=Under.cell h.c4;have y5:=Under.cell h.c5;have yg:=Under.cell hg;have cT:=fun (q:Under w)=>target_any V Y hN d nx hs hd hh q.W (hE.keep q.below)
 have hn0:((0:Int)<(NT:Int)):=by omega
 have hn1:0<NT:=hNT;have hn2:NT≠0:=by omega
 have hn3:¬NT=0:=by omega
 rw [show (some (⟨V,0,none⟩:Addr)).isSome=true from rfl] at c0;clear h hE hg;generalize Y.T (tgt Y.N d hs)=Tt at *
 go_enter Tryz.func93,Tryz.ntmps93
 go_wp2_with (go_at_call 120;refine c0.mono ?_;rintro e w1 ⟨rfl,rfl⟩)
 refine tail.wp_region_tail_under 12 (by kernel_rfl) (by kernel_rfl) ?_;simp only [List.take_succ_cons,List.take_zero,List.drop_succ_cons,List.drop_zero]
 repeat (quiet_step ((go_at_call 127;(with_reducible refine under_call (cT _)))))
 refine wpQuiet_nil ?_;intro wz hwz;obtain⟨z,rfl⟩:=hwz;have hb:=z.below;clear c0 y4 y5 yg cT;generalize z.W=w4 at *
 clear z;go_wp2
 go_ret
 have hr:=World.alloc_heap_new w4 (.cells #[.pointer (some ⟨Tt,0,none⟩),.pointer (some ⟨Y.T 0,0,none⟩)] 86);refine⟨w4.heap.size,rfl, ?_, ?_,hb.size,under.below_step hb (new_block _ _)⟩
 ·rw [cell_of_row _ _ _ _ _ _ hr];rfl
 ·rw [cell_of_row _ _ _ _ _ _ hr];rfl
end
section
variable {a:String→Addr} {w0:World} {Y:Lay} {D n1 d:Nat} {dp:Int} {q:Nat} {tk:Bool} {t:Nat→Tb} {fp:List Nat} {w W W':World} {L:Ln} {m:Mt}
theorem DAt.box(h:DAt a w0 Y D n1 d dp q tk t fp W):∃sB GT cT pm sU,DRow D (Y.n 0+(Y.N-1)*n1) q dp sB (.slice (some ⟨GT,0,none⟩) (cut Y (rdy Y n1 q)).N cT) pm sU W∧pm.isSome=rdy Y n1 q∧(∀j,j<(cut Y (rdy Y n1 q)).N→W.cell? ⟨GT,j,none⟩=some (.pointer (some ⟨Y.T j,0,none⟩)))∧GT∈fp∧GT∉Y.tall∧D∈fp∧D∉Y.tall:=by
 rcases h with⟨hq,h1,Q,GB,cB,GT,cT,h,rfl⟩|⟨hq,h1,Q,GT,cT,GU,cU,V,h,rfl⟩
 ·rw [rdy_no hq]
  refine⟨_,GT,cT,none,_,h.row,rfl,fun j hj=>?_,by simp [fpP],h.nGT.1,by simp [fpP],h.pl.nD⟩;obtain rfl:j=0:=by have : j<1:=hj;omega
  exact h.gt
 ·rw [rdy_yes hq]
  obtain⟨sB,hr⟩:=h.row;exact⟨sB,GT,cT,some ⟨V,0,none⟩,_,hr,rfl,h.gt,by simp [fpM],h.nGT.1,by simp [fpM],h.pl.nD⟩
theorem DAt.small(h:DAt a w0 Y D n1 d dp q tk t fp W):Y.n 0+(Y.N-1)*n1≤192∧1≤Y.n 0∧1≤n1:=by
 obtain⟨Q,p⟩:=h.pl;have a1:=okN_le p.o0;have a2:=okN_le p.o1;have b1:=okN_pos p.o0;have b2:=okN_pos p.o1;have : (Y.N-1)*n1≤2*64:=Nat.mul_le_mul (by have:=p.N;omega) a2;omega
theorem DAt.left(h:DAt a w0 Y D n1 d dp q tk t fp w):Calls Tryz.prog 81 #[.pointer (some ⟨D,0,none⟩)] w fun e w'=>e=.returned (.int .i64 ((Y.n 0+(Y.N-1)*n1-q:Nat):Int))∧Below w.heap.size w w':=by
 obtain⟨sB,GT,cT,pm,sU,hr,_⟩:=h.box;exact left_any h.le (by have:=h.small;omega) hr
theorem DAt.groups(h:DAt a w0 Y D n1 d dp q tk t fp w):Calls Tryz.prog 217 #[.pointer (some ⟨D,0,none⟩)] w fun e w'=>e=.returned (.int .i64 ((Y.n 0+(Y.N-1)*n1:Nat):Int))∧w=w':=by
 obtain⟨sB,GT,cT,pm,sU,hr,_⟩:=h.box;exact groups_any hr
theorem DAt.where'(h:DAt a w0 Y D n1 d dp q tk t fp w)(hl:LnAt L m w)(hd:∀b∈L.d,w0.heap.size≤b∧b∉fp)(hs:Nat)(hh:hs<18446744073709551616):∀W,Below w.heap.size w W→Calls Tryz.prog 93 #[.pointer (some ⟨D,0,none⟩),.int .u64 (hs:Nat)] W fun e w'=>∃o c,e=.returned (.slice o (js (rdy Y n1 q) Y.N d hs).length c)∧PtrsAt o (ptrs (cut Y (rdy Y n1 q)) (js (rdy Y n1 q) Y.N d hs)) w'∧(∀x,o=some x→x.block∉L.d∧x.block∉(cut Y (rdy Y n1 q)).tall∧(x.block<w.heap.size∨W.heap.size≤x.block))∧Below W.heap.size W w':=by
 intro W hb
 rcases h with⟨hq,h1,Q,GB,cB,GT,cT,h,rfl⟩|⟨hq,h1,Q,GT,cT,GU,cU,V,h,rfl⟩
 ·rw [rdy_no hq]
  refine (where_no (h.read hb).row hs).mono fun e w' ⟨he,hw⟩=>?_
  subst hw;refine⟨some ⟨GT,0,none⟩,cT,he,fun j hj=>?_,fun x hx=>?_,Below.refl _ _⟩
  ·obtain rfl:j=0:=by simp [ptrs,js] at hj;exact hj
   refine⟨_,rfl, ?_⟩;rw [add_at];exact (h.read hb).gt
  ·injection hx with hx
   subst hx;have:=World.block_lt_of_cell? _ _ h.gt;exact⟨fun e=>(hd _ e).2 (by simp [fpP]),fun e=>h.nGT.1 (cut_tall h.pl.N e),.inl this⟩
 ·rw [rdy_yes hq]
  have hr:=h.read hb;obtain⟨sB,hrow⟩:=hr.row;refine (where_yes h.pl.N h.pl.ld (by have:=h.pl.N;omega) hrow hr.ev (hr.gt 0 (by have:=h.pl.N;omega)) hs hh).mono fun e w' ⟨A,he,c0,c1,hA,hb'⟩=>?_
  refine⟨some ⟨A,0,none⟩,2,he,fun j hj=>?_,fun x hx=>?_,hb'⟩
  ·refine⟨_,rfl, ?_⟩
   rw [add_at];have : j<2:=by simpa [ptrs,js] using hj
   obtain rfl|rfl:j=0∨j=1:=by omega
   ·exact c0
   ·exact c1
  ·injection hx with hx
   subst hx;have hz:=hb.size;have hlt:=hl.lt;have htl:=h.re.lt;exact⟨fun e=>(by have hx:A<w.heap.size:=hlt _ e;omega),fun e=>(by have hx:A<w.heap.size:=htl _ e;omega),.inr hA⟩
theorem DAt.hd(h:DAt a w0 Y D n1 d dp q tk t fp w)(hd:∀b∈L.d,w0.heap.size≤b∧b∉fp):∀b∈L.d,w0.heap.size≤b∧b∉(cut Y (rdy Y n1 q)).tall:=fun b hb=>⟨(hd b hb).1,fun e=>(hd b hb).2 (h.tin b (cut_tall h.N e))⟩
theorem DAt.find(h:DAt a w0 Y D n1 d dp q tk t fp w)(hl:LnAt L m w)(hd:∀b∈L.d,w0.heap.size≤b∧b∉fp)(key hs:Nat)(hk:key<18446744073709551616)(hh:hs<18446744073709551616) :
  Calls Tryz.prog 216 #[.pointer (some ⟨D,0,none⟩),.agg #[.pointer L.p],.int .u64 (key:Nat),.int .u64 (hs:Nat)] w fun e w'=>e=.returned (.tuple #[group.entV (fndE t key hs (js (rdy Y n1 q) Y.N d hs)).key (fndE t key hs (js (rdy Y n1 q) Y.N d hs)).val (fndE t key hs (js (rdy Y n1 q) Y.N d hs)).hash,.bool (fnd t key hs (js (rdy Y n1 q) Y.N d hs)).isSome])∧DAt a w0 Y D n1 d dp q tk t fp w'∧LnStep [] L (L.see m (fndK t key hs (js (rdy Y n1 q) Y.N d hs))) w w':=
 (find_core a w0 (cut Y (rdy Y n1 q)) t D key hs hk hh L m (js (rdy Y n1 q) Y.N d hs) (by have:=js_le (rdy Y n1 q) Y.N d hs;omega) (js_lt h.N _ d hs) w h.re hl (h.hd hd) (h.where' hl hd hs hh)).mono fun e w' ⟨he,hs'⟩=>⟨he,h.aside (l:=L.d) (by simpa using hs'.past) hd,hs'⟩
theorem DAt.tabs(h:DAt a w0 Y D n1 d dp q tk t fp w)(hd:∀b∈L.d,w0.heap.size≤b∧b∉fp){t':Nat→Tb}{m':Mt}(hr:Real a w0 (cut Y (rdy Y n1 q)) t' W')(hs:LnStep (cut Y (rdy Y n1 q)).tall L m' w W')(ht:rdy Y n1 q=false→∀j,1≤j→t' j=t j):DAt a w0 Y D n1 d dp q tk t' fp W':=
 h.past hs.past (fun b hb=>(List.mem_append.1 hb).elim .inr fun hb=>.inl (hd b hb).2) hr ht
theorem dT_off{key hs v N d:Nat}{more:Bool}{rd:Bool}(hrd:rd=false):∀j,1≤j→dT t key hs v (js rd N d hs) more j=t j:=fun j hj=>by
 subst hrd
 have e:dI t key hs (js false N d hs)=0:=by
  unfold dI;cases hf:fnd t key hs (js false N d hs) with
  | none=>rfl
  | some i =>
   have:=(fnd_some hf).1
   simpa [js] using this
 unfold dT
 split
 ·rw [e,up_ne _ _ (by omega)]
 ·rfl
theorem eT_off{key hs N d:Nat}{rd:Bool}(hrd:rd=false):∀j,1≤j→eT t key hs (js rd N d hs) j=t j:=fun j hj=>by
 subst hrd;cases hf:fnd t key hs (js false N d hs) with
 | none=>rw [del_off hf]
 | some i =>
  have:=(fnd_some hf).1;obtain rfl:i=0:=by simpa [js] using this
  rw [del_found hf,up_ne _ _ (by omega)]
theorem DAt.put(h:DAt a w0 Y D n1 d dp q tk t fp w)(hl:LnAt L m w)(hd:∀b∈L.d,w0.heap.size≤b∧b∉fp)(key v hs:Nat)(hk:key<18446744073709551616)(hv:v<18446744073709551616)(hh:hs<18446744073709551616)(more:Bool) :
  Calls Tryz.prog 45 #[.pointer (some ⟨D,0,none⟩),.agg #[.pointer L.p],group.entV key v hs,.bool more] w fun e w'=>e=.returned (.tuple #[.bool (dB t key hs (js (rdy Y n1 q) Y.N d hs) more),errAt a (dE t key hs (js (rdy Y n1 q) Y.N d hs) more)])∧DAt a w0 Y D n1 d dp q tk (dT t key hs v (js (rdy Y n1 q) Y.N d hs) more) fp w'∧LnStep Y.tall L (L.see m (fndK t key hs (js (rdy Y n1 q) Y.N d hs))) w w':=
 (put_core a w0 (cut Y (rdy Y n1 q)) t D key v hs hk hv hh more L m (js (rdy Y n1 q) Y.N d hs) (js_le (rdy Y n1 q) Y.N d hs).1 (by have:=js_le (rdy Y n1 q) Y.N d hs;omega) (js_lt h.N _ d hs) w h.re hl (h.hd hd) (h.where' hl hd hs hh)).mono fun e w' ⟨he,hr,hs'⟩=>⟨he,h.tabs hd hr hs' dT_off,hs'.mono fun b hb=>cut_tall h.N hb⟩
theorem DAt.delete(h:DAt a w0 Y D n1 d dp q tk t fp w)(hl:LnAt L m w)(hd:∀b∈L.d,w0.heap.size≤b∧b∉fp)(key hs:Nat)(hk:key<18446744073709551616)(hh:hs<18446744073709551616) :
  Calls Tryz.prog 215 #[.pointer (some ⟨D,0,none⟩),.agg #[.pointer L.p],.int .u64 (key:Nat),.int .u64 (hs:Nat)] w fun e w'=>e=.returned (.tuple #[group.entV (fndE t key hs (js (rdy Y n1 q) Y.N d hs)).key (fndE t key hs (js (rdy Y n1 q) Y.N d hs)).val (fndE t key hs (js (rdy Y n1 q) Y.N d hs)).hash,.bool (fnd t key hs (js (rdy Y n1 q) Y.N d hs)).isSome])∧DAt a w0 Y D n1 d dp q tk (eT t key hs (js (rdy Y n1 q) Y.N d hs)) fp w'∧LnStep Y.tall L (L.see m (fndK t key hs (js (rdy Y n1 q) Y.N d hs))) w w':=
 (delete_core a w0 (cut Y (rdy Y n1 q)) t D key hs hk hh L m (js (rdy Y n1 q) Y.N d hs) (by have:=js_le (rdy Y n1 q) Y.N d hs;omega) (js_lt h.N _ d hs) w h.re hl (h.hd hd) (h.where' hl hd hs hh)).mono fun e w' ⟨he,hr,hs'⟩=>⟨he,h.tabs hd hr hs' eT_off,hs'.mono fun b hb=>cut_tall h.N hb⟩
end
def lenS(t:Nat→Tb):Nat→Int
 | 0=>0
 | k+1=>lenS t k+(t k).len
theorem lenS_le{t:Nat→Tb}{N:Nat}(h:∀i,i<N→(t i).Ok):∀k,k≤N→0≤lenS t k∧lenS t k≤512*(k:Int)
 | 0,_=>by simp [lenS]
 | k+1,hk=>by
  have a:=lenS_le h k (by omega);have b:=(h k (by omega)).bounds;have e:lenS t (k+1)=lenS t k+(t k).len:=rfl;rw [e];omega
set_option maxRecDepth 20000 in
theorem len_core(a:String→Addr)(w0:World)(Y:Lay)(t:Nat→Tb)(D GT cT:Nat)(hN:Y.N≤3)(w:World)(hr:Real a w0 Y t w)(h4:w.cell? ⟨D,4,none⟩=some (.slice (some ⟨GT,0,none⟩) Y.N cT))(hg:∀j,j<Y.N→w.cell? ⟨GT,j,none⟩=some (.pointer (some ⟨Y.T j,0,none⟩))) :
  Calls Tryz.prog 219 #[.pointer (some ⟨D,0,none⟩)] w fun e w'=>e=.returned (.int .i64 (lenS t Y.N))∧w=w':=by
 go_enter Tryz.func219,Tryz.ntmps219
 go_wp2_with (fail)
 go_loopw [11,3] (fun i n wr=>∃j:Nat,j≤Y.N∧i=.int .i64 j∧n=.int .i64 (lenS t j)∧wr=w) (fun i _ _=>Y.N-(intOf i).toNat)
 case atStart=>exact⟨0,by omega,rfl,rfl,rfl⟩
 case round =>
  obtain⟨j,hj,rfl,rfl,rfl⟩:=hrel
  rcases Nat.lt_or_ge j Y.N with hjl|hjl
  ·have hji:(j:Int)<(Y.N:Int):=by omega
   have hc:=hg j hjl;have hadd:(⟨GT,0,none⟩:Addr).add j=⟨GT,j,none⟩:=by rw [add_at,Nat.zero_add]
   have cL:=len_any (Y.T j) (Y.B j) (t j) wr (hr.at' j hjl);have b1:=lenS_le hr.ok j (by omega);have b2:=(hr.ok j hjl).bounds;have ew:IntKind.i64.wrap (lenS t j+(t j).len)=lenS t (j+1):=IntWalk.i64_in _ (by omega);generalize lenS t j=x at *
   generalize (t j).len=y at *
   go_wp2_with (go_at_call 77;refine cL.mono ?_;rintro e w1 ⟨rfl,rfl⟩)
   go_roundw
   case rel=>exact⟨j+1,by omega,by simp,rfl,trivial⟩
   case measure=>simp [intOf];omega
  ·obtain rfl:j=Y.N:=by omega
   go_wp2
   go_ret
   exact⟨rfl,rfl⟩
theorem DAt.len{a:String→Addr}{w0:World}{Y:Lay}{D n1 d:Nat}{dp:Int}{q:Nat}{tk:Bool}{t:Nat→Tb}{fp:List Nat}{w:World}(h:DAt a w0 Y D n1 d dp q tk t fp w):Calls Tryz.prog 219 #[.pointer (some ⟨D,0,none⟩)] w fun e w'=>e=.returned (.int .i64 (lenS t (cut Y (rdy Y n1 q)).N))∧w=w':=by
 obtain⟨sB,GT,cT,pm,sU,hr,_,hg,_⟩:=h.box;exact len_core a w0 (cut Y (rdy Y n1 q)) t D GT cT (by have:=cut_le h.N (rdy Y n1 q);have:=h.N;omega) w h.re hr.c4 hg
theorem must_tab(v:Value)(w:World):Calls Tryz.prog 37 #[v,.nilIface] w fun e w'=>e=.returned v∧w=w':=by
 go_enter Tryz.func37,Tryz.ntmps37
 go_wp2_with (go_at_call 83;refine (raise_nil _).mono ?_;rintro e w1 ⟨rfl,rfl⟩)
 go_ret
 exact⟨rfl,rfl⟩
theorem must_ev(v:Value)(w:World):Calls Tryz.prog 176 #[v,.nilIface] w fun e w'=>e=.returned v∧w=w':=by
 go_enter Tryz.func176,Tryz.ntmps176
 go_wp2_with (go_at_call 83;refine (raise_nil _).mono ?_;rintro e w1 ⟨rfl,rfl⟩)
 go_ret
 exact⟨rfl,rfl⟩
def newsV(Y:Lay)(j:Nat):List Value:=(List.range j).map fun i=>.pointer (some ⟨Y.T (i+1),0,none⟩)
theorem newsV_length(Y:Lay)(j:Nat):(newsV Y j).length=j:=by simp [newsV]
theorem newsV_succ(Y:Lay)(j:Nat):newsV Y (j+1)=newsV Y j++[.pointer (some ⟨Y.T (j+1),0,none⟩)]:=by simp [newsV,List.range_succ]
structure Bgn(a:String→Addr)(w0 w:World)(Y:Lay)(D:Nat)(Q:Nat→Nat)(n1 d:Nat)(dp:Int)(GB cB GT cT dn:Nat)(t:Nat→Tb)(jt ju:Nat)(c v:Value)(W:World):Prop where
 pl:Pl w0 Y D Q n1 d dp
 row:DRow D (Y.n 0+(Y.N-1)*n1) dn dp (.slice (some ⟨GB,0,none⟩) (Y.N-1) cB) (.slice (some ⟨GT,0,none⟩) 1 cT) none c W
 gb:∀j,1≤j→j<Y.N→W.cell? ⟨GB,j-1,none⟩=some (.pointer (some ⟨Q j,0,none⟩))
 gt:W.cell? ⟨GT,0,none⟩=some (.pointer (some ⟨Y.T 0,0,none⟩))
 re:Real a w0 (cut Y false) t W
 bx:∀j,1≤j→j<Y.N→build.BBox (Q j) n1 n1 (if j≤jt then none else some ⟨Y.T j,0,none⟩) W
 tb:∀j,1≤j→j<Y.N→PAt (Y.T j) (Y.B j) n1 n1 W
 un:W.ownsRow w.heap.size 86 1 v ju (newsV Y ju)
 nGB:GB∉Y.tall∧GB≠D∧∀j,1≤j→j<Y.N→Q j≠GB
 nGT:GT∉Y.tall∧GT≠D∧∀j,1≤j→j<Y.N→Q j≠GT
 tn:∀j,1≤j→t j=Tb.new n1
 hw:w0.heap.size≤w.heap.size
 oD:D<w.heap.size
 oGB:GB<w.heap.size
 oGT:GT<w.heap.size
 oQ:∀j,1≤j→j<Y.N→Q j<w.heap.size
 ot:∀b∈Y.tall,b<w.heap.size
 past:Past [D,Q 1,Q (Y.N-1)] w W
section
variable {a:String→Addr} {w0 w:World} {Y:Lay} {D:Nat} {Q:Nat→Nat} {n1 d:Nat} {dp:Int} {GB cB GT cT dn:Nat} {t:Nat→Tb} {jt ju:Nat} {c v:Value} {W W':World}
theorem Bgn.aside(h:Bgn a w0 w Y D Q n1 d dp GB cB GT cT dn t jt ju c v W){l:List Nat}(hp:Past l W W')(hl:∀b∈l,w.heap.size≤b){ju':Nat}{v':Value}(hu:W'.ownsRow w.heap.size 86 1 v' ju' (newsV Y ju')):Bgn a w0 w Y D Q n1 d dp GB cB GT cT dn t jt ju' c v' W':=by
 have no:∀x,x<w.heap.size→x∉l:=fun x hx e=>by have:=hl x e;omega
 refine⟨h.pl,h.row.past hp (no _ h.oD),fun j h1 hj=>hp.cell (h.gb j h1 hj) (no _ h.oGB),hp.cell h.gt (no _ h.oGT),h.re.past hp (fun b hb=>⟨Nat.le_trans h.hw (hl b hb),fun e=>no _ (h.ot b (cut_tall h.pl.N e)) hb⟩),fun j h1 hj=>(h.bx j h1 hj).past hp (no _ (h.oQ j h1 hj)),fun j h1 hj=>(h.tb j h1 hj).past hp (no _ (h.ot _ (h.pl.tin hj).1)) (no _ (h.ot _ (h.pl.tin hj).2)),hu,h.nGB,h.nGT,h.tn,h.hw,h.oD,h.oGB,h.oGT,h.oQ,h.ot, ?_⟩;exact⟨hp.os.trans h.past.os,hp.tape.trans h.past.tape,hp.output.trans h.past.output,Nat.le_trans h.past.size hp.size,fun k hk hd=>(hp.block k (Nat.lt_of_lt_of_le hk h.past.size) (no k hk)).trans (h.past.block k hk hd)⟩
theorem Bgn.read(h:Bgn a w0 w Y D Q n1 d dp GB cB GT cT dn t jt ju c v W)(hb:Below W.heap.size W W'):Bgn a w0 w Y D Q n1 d dp GB cB GT cT dn t jt ju c v W':=
 h.aside (Past.of (d:=[]) hb) (fun b hb=>by cases hb) (row_below h.un hb)
theorem Bgn.grow(h:Bgn a w0 w Y D Q n1 d dp GB cB GT cT dn t jt ju c v W){v':Value}(hg:W.grownBy W' v.ownBlock)(hu:W'.ownsRow w.heap.size 86 1 v' (ju+1) (newsV Y ju++[.pointer (some ⟨Y.T (ju+1),0,none⟩)])):Bgn a w0 w Y D Q n1 d dp GB cB GT cT dn t jt (ju+1) c v' W':=by
 rw [←newsV_succ] at hu;refine h.aside (past_grown hg) (fun b hb=>?_) hu;cases e:v.ownBlock with
 | none=>rw [e] at hb;cases hb
 | some g =>
  rw [e] at hb;obtain rfl:b=g:=by simpa using hb
  exact (row_lt h.un e).1
theorem Bgn.take(h:Bgn a w0 w Y D Q n1 d dp GB cB GT cT dn t jt ju c v W)(hj:jt+1<Y.N)(q:Nat):Bgn a w0 w Y D Q n1 d dp GB cB GT cT dn t (jt+1) ju c v ((W.drewN q).setCell ⟨Q (jt+1),2,none⟩ (.pointer none)):=by
 have h':=h.read (below_drewN' W q);have hp:Past [Q (jt+1)] (W.drewN q) ((W.drewN q).setCell ⟨Q (jt+1),2,none⟩ (.pointer none)):=(Past.refl _ _).store (.inl (by simp)) _;have q1:1≤jt+1:=by omega
 have nQ:=h.pl.nQ (jt+1) q1 hj;have nD:=h.pl.qD (jt+1) q1 hj;have lQ:=h.oQ (jt+1) q1 hj
 have inQ:Q (jt+1)∈[D,Q 1,Q (Y.N-1)]:=by
  have:=h.pl.N;obtain e|e:jt+1=1∨jt+1=Y.N-1:=by omega
  ·rw [e];simp
  ·rw [e];simp
 refine⟨h.pl,h'.row.past hp (by simpa using Ne.symm nD),fun j h1 hj'=>hp.cell (h'.gb j h1 hj') (by simpa using Ne.symm (h.nGB.2.2 (jt+1) q1 hj)),hp.cell h'.gt (by simpa using Ne.symm (h.nGT.2.2 (jt+1) q1 hj)),h'.re.past hp (fun b hb=>?_),fun j h1 hj'=>?_,fun j h1 hj'=>(h'.tb j h1 hj').past hp (by simp only [List.mem_singleton];exact fun e=>nQ (e ▸ (h.pl.tin hj').1)) (by simp only [List.mem_singleton];exact fun e=>nQ (e ▸ (h.pl.tin hj').2)),row_past2 h'.un hp fun g hg e=>?_,h.nGB,h.nGT,h.tn,h.hw,h.oD,h.oGB,h.oGT,h.oQ,h.ot,h'.past.store (.inl inQ) _⟩
 ·obtain rfl:b=Q (jt+1):=by simpa using hb
  exact⟨h.pl.hQ _ q1 hj,fun e=>nQ (cut_tall h.pl.N e)⟩
 ·by_cases e:j=jt+1
  ·subst e
   rw [if_pos (Nat.le_refl _)];exact (h'.bx _ h1 hj').set2 none
  ·have hb:=(h'.bx j h1 hj').past hp (by simpa using h.pl.qq j (jt+1) h1 hj' q1 hj e)
   by_cases e2:j≤jt
   ·rw [if_pos e2] at hb;rw [if_pos (by omega)];exact hb
   ·rw [if_neg e2] at hb;rw [if_neg (by omega)];exact hb
 ·obtain rfl:g=Q (jt+1):=by simpa using e
  have:=(row_lt h.un hg).1;omega
theorem Bgn.store(h:Bgn a w0 w Y D Q n1 d dp GB cB GT cT dn t jt ju c v W):Bgn a w0 w Y D Q n1 d dp GB cB GT cT dn t jt ju v v (W.setCell ⟨D,6,none⟩ v):=by
 have hp:Past [D] W (W.setCell ⟨D,6,none⟩ v):=(Past.refl _ _).store (.inl (by simp)) _
 have nt:∀b∈Y.tall,b∉[D]:=fun b hb e=>by
  obtain rfl:b=D:=by simpa using e
  exact h.pl.nD hb
 refine⟨h.pl,h.row.set6 v,fun j h1 hj'=>hp.cell (h.gb j h1 hj') (by simpa using h.nGB.2.1),hp.cell h.gt (by simpa using h.nGT.2.1),h.re.past hp (fun b hb=>?_),fun j h1 hj'=>(h.bx j h1 hj').past hp (by simpa using h.pl.qD j h1 hj'),fun j h1 hj'=>(h.tb j h1 hj').past hp (nt _ (h.pl.tin hj').1) (nt _ (h.pl.tin hj').2),row_past2 h.un hp fun g hg e=>?_,h.nGB,h.nGT,h.tn,h.hw,h.oD,h.oGB,h.oGT,h.oQ,h.ot,h.past.store (.inl (by simp)) _⟩
 ·obtain rfl:b=D:=by simpa using hb
  exact⟨h.pl.hD,fun e=>h.pl.nD (cut_tall h.pl.N e)⟩
 ·obtain rfl:g=D:=by simpa using e
  have:=(row_lt h.un hg).1;have:=h.oD;omega
end
structure Bg2(a:String→Addr)(w0 w:World)(Y:Lay)(D:Nat)(Q:Nat→Nat)(n1 d:Nat)(dp:Int)(GT dn:Nat)(t:Nat→Tb)(nb V g cap:Nat)(pm:Option Addr)(W:World):Prop where
 pl:Pl w0 Y D Q n1 d dp
 row:∃sB,DRow D (Y.n 0+(Y.N-1)*n1) dn dp sB (.slice (some ⟨GT,0,none⟩) 1 1) pm (.slice (some ⟨g,0,none⟩) nb cap) W
 gt:W.cell? ⟨GT,0,none⟩=some (.pointer (some ⟨Y.T 0,0,none⟩))
 gu:∀j,j<nb→W.cell? ⟨g,j,none⟩=some (.pointer (some ⟨Y.T (j+1),0,none⟩))
 re:Real a w0 (cut Y false) t W
 tb:∀j,1≤j→j<Y.N→PAt (Y.T j) (Y.B j) n1 n1 W
 ev:EvAt V Y d 0 W
 tn:∀j,1≤j→t j=Tb.new n1
 hw:w0.heap.size≤w.heap.size
 oD:D<w.heap.size
 oGT:GT<w.heap.size
 ot:∀b∈Y.tall,b<w.heap.size
 hg:w.heap.size≤g
 hV:g<V
 gD:GT≠D
 past:Past [D,Q 1,Q (Y.N-1)] w W
section
variable {a:String→Addr} {w0 w:World} {Y:Lay} {D:Nat} {Q:Nat→Nat} {n1 d:Nat} {dp:Int} {GB cB GT dn:Nat} {t:Nat→Tb} {nb V g cap:Nat} {pm:Option Addr} {W W':World}
theorem Bg2.read(h:Bg2 a w0 w Y D Q n1 d dp GT dn t nb V g cap pm W)(hb:Below W.heap.size W W'):Bg2 a w0 w Y D Q n1 d dp GT dn t nb V g cap pm W':=by
 obtain⟨sB,hr⟩:=h.row;exact⟨h.pl,⟨sB,hr.keep hb⟩,keepc hb h.gt,fun j hj=>keepc hb (h.gu j hj),h.re.read hb,fun j h1 hj=>(h.tb j h1 hj).below hb,h.ev.keep hb,h.tn,h.hw,h.oD,h.oGT,h.ot,h.hg,h.hV,h.gD,h.past.trans (Past.of hb)⟩
theorem Bgn.two{cb:Nat}(h:Bgn a w0 w Y D Q n1 d dp GB cB GT 1 dn t nb nb (.slice (some ⟨g,0,none⟩) nb cap) (.slice (some ⟨g,0,none⟩) nb cap) W)(hE:EvAt V Y d 0 W')(hV:W.heap.size≤V)(hb:Below W.heap.size W W'):Bg2 a w0 w Y D Q n1 d dp GT dn t nb V g cap none W':=by
 have hg:=row_lt h.un (g:=g) rfl
 have hc:∀j,j<nb→W.cell? ⟨g,j,none⟩=some (.pointer (some ⟨Y.T (j+1),0,none⟩)):=fun j hj=>by
  have:=h.un.cells (g:=g) rfl j (.pointer (some ⟨Y.T (j+1),0,none⟩)) (by simp [newsV,hj])
  rwa [add_at,Nat.zero_add] at this
 exact⟨h.pl,⟨_,h.row.keep hb⟩,keepc hb h.gt,fun j hj=>keepc hb (hc j hj),h.re.read hb,fun j h1 hj=>(h.tb j h1 hj).below hb,hE,h.tn,h.hw,h.oD,h.oGT,h.ot,hg.1,by omega,h.nGT.2.1,h.past.trans (Past.of hb)⟩
theorem Bg2.store(h:Bg2 a w0 w Y D Q n1 d dp GT dn t nb V g cap none W):Bg2 a w0 w Y D Q n1 d dp GT dn t nb V g cap (some ⟨V,0,none⟩) (W.setCell ⟨D,5,none⟩ (.pointer (some ⟨V,0,none⟩))):=by
 obtain⟨sB,hr⟩:=h.row;have hp:Past [D] W (W.setCell ⟨D,5,none⟩ (.pointer (some ⟨V,0,none⟩))):=(Past.refl _ _).store (.inl (by simp)) _
 have nt:∀b∈Y.tall,b∉[D]:=fun b hb e=>by
  obtain rfl:b=D:=by simpa using e
  exact h.pl.nD hb
 have l1:=h.oD;have l2:=h.hg;have l3:=h.hV;refine⟨h.pl,⟨sB,hr.set5 _⟩,hp.cell h.gt (by simpa using h.gD),fun j hj=>hp.cell (h.gu j hj) (by simp only [List.mem_singleton];omega),h.re.past hp (fun b hb=>?_),fun j h1 hj=>(h.tb j h1 hj).past hp (nt _ (h.pl.tin hj).1) (nt _ (h.pl.tin hj).2),h.ev.past hp (by simp only [List.mem_singleton];omega),h.tn,h.hw,h.oD,h.oGT,h.ot,h.hg,h.hV,h.gD,h.past.trans (hp.mono (by simp))⟩;obtain rfl:b=D:=by simpa using hb
 exact⟨h.pl.hD,fun e=>h.pl.nD (cut_tall h.pl.N e)⟩
theorem Bg2.mov{v':Value}(h:Bg2 a w0 w Y D Q n1 d dp GT dn t nb V g cap (some ⟨V,0,none⟩) W)(hnb:Y.N=nb+1)(hg:W.grownBy W' none)(hu:W'.ownsRow W.heap.size 86 1 v' (1+nb) ([.pointer (some ⟨Y.T 0,0,none⟩)]++newsV Y nb)) :
  ∃GT' cT',v'=.slice (some ⟨GT',0,none⟩) (1+nb) cT'∧W.heap.size≤GT'∧w.heap.size≤GT'∧DRow D (Y.n 0+(Y.N-1)*n1) dn dp (h.row.choose) (.slice (some ⟨GT,0,none⟩) 1 1) (some ⟨V,0,none⟩) (.slice (some ⟨g,0,none⟩) nb cap) W'∧Mov a w0 Y D Q n1 d dp GT' cT' g cap V 0 dn false t (W'.setCell ⟨D,4,none⟩ (.slice (some ⟨GT',0,none⟩) (1+nb) cT'))∧Past [D,Q 1,Q (Y.N-1)] w (W'.setCell ⟨D,4,none⟩ (.slice (some ⟨GT',0,none⟩) (1+nb) cT')):=by
 have hb:Below W.heap.size W W':=⟨hg.os,hg.tape,hg.output,hg.size,fun k hk=>hg.block k hk (by simp)⟩;obtain⟨GT',cT',rfl,_,_⟩:=hu.form (by omega);have hl:=row_lt hu (g:=GT') rfl;have h2:=h.read hb;have hr:=h.row.choose_spec.keep hb;have zs:=h.past.size;have l1:=h.oD;have l2:=h.hg;have l3:=h.hV;have lV:=h.ev.lt;have lt:=h.ot;have hp:Past [D] W' (W'.setCell ⟨D,4,none⟩ (.slice (some ⟨GT',0,none⟩) (1+nb) cT')):=(Past.refl _ _).store (.inl (by simp)) _
 have nt:∀b∈Y.tall,b∉[D]:=fun b hb e=>by
  obtain rfl:b=D:=by simpa using e
  exact h.pl.nD hb
 have hc:∀j,j<Y.N→W'.cell? ⟨GT',j,none⟩=some (.pointer (some ⟨Y.T j,0,none⟩)):=fun j hj=>by
  have:=hu.cells (g:=GT') rfl j (.pointer (some ⟨Y.T j,0,none⟩)) (by
   rcases Nat.eq_zero_or_pos j with rfl|h0
   ·rfl
   ·rw [List.getElem?_append_right (by simp;omega)]
    simp only [List.length_singleton]
    simp [newsV,show j-1<nb by omega,show j-1+1=j by omega])
  rwa [add_at,Nat.zero_add] at this
 refine⟨GT',cT',rfl,hl.1,by omega,hr,⟨h.pl,⟨h.row.choose, ?_⟩,fun j hj=>hp.cell (hc j hj) (by simp only [List.mem_singleton];omega),fun j h1 hj=>?_, ?_,h2.ev.past hp (by simp only [List.mem_singleton];omega),by have:=h.hw;omega,⟨fun e=>by have:=lt _ e;omega,by omega⟩,⟨fun e=>by have:=lt _ e;omega,by omega,by omega⟩,⟨fun e=>by have:=lt _ e;omega,by omega,by omega⟩⟩,h2.past.trans (hp.mono (by simp))⟩
 ·have:=hr.set4 (.slice (some ⟨GT',0,none⟩) (1+nb) cT')
  have key:∀x y:Nat,x=1+nb→y=nb→DRow D (Y.n 0+(Y.N-1)*n1) dn dp h.row.choose (.slice (some ⟨GT',0,none⟩) x cT') (some ⟨V,0,none⟩) (.slice (some ⟨g,0,none⟩) y cap) (W'.setCell ⟨D,4,none⟩ (.slice (some ⟨GT',0,none⟩) (1+nb) cT')):=by
   rintro _ _ rfl rfl;exact this
  exact key _ _ (by omega) (by omega)
 ·have:=hp.cell (h2.gu (j-1) (by omega)) (by simp only [List.mem_singleton];omega)
  rwa [show j-1+1=j by omega] at this
 ·have r0:=h2.re.past hp (fun b hb=>by
   obtain rfl:b=D:=by simpa using hb
   exact⟨h.pl.hD,fun e=>h.pl.nD (cut_tall h.pl.N e)⟩)
  refine⟨fun i hi=>?_,fun i hi=>?_,fun i hi=>?_,h.pl.sep,h.pl.ht,r0.bel,r0.base⟩
  ·rcases Nat.eq_zero_or_pos i with rfl|h0
   ·exact r0.at' 0 Nat.one_pos
   ·rw [h.tn i h0]
    exact ((h2.tb i h0 hi).past hp (nt _ (h.pl.tin hi).1) (nt _ (h.pl.tin hi).2)).all
  ·rcases Nat.eq_zero_or_pos i with rfl|h0
   ·exact r0.ok 0 Nat.one_pos
   ·rw [h.tn i h0];exact Tb.Ok.new h.pl.o1
  ·rcases Nat.eq_zero_or_pos i with rfl|h0
   ·exact r0.tn 0 Nat.one_pos
   ·rw [h.tn i h0,h.pl.e1 i h0 hi];rfl
theorem ev_new(h:Bgn a w0 w Y D Q n1 d dp GB cB GT 1 dn t nb nb (.slice (some ⟨g,0,none⟩) nb cap) (.slice (some ⟨g,0,none⟩) nb cap) W)(hnb:Y.N=nb+1) :
  Calls Tryz.prog 177 #[.pointer (some ⟨Y.T 0,0,none⟩),.int .i64 dp,.slice (some ⟨g,0,none⟩) nb cap] W fun e w'=>∃V,e=.returned (.tuple #[.pointer (some ⟨V,0,none⟩),.nilIface])∧EvAt V Y d 0 w'∧W.heap.size≤V∧Below W.heap.size W w':=by
 have hT:=h.re.at' 0 Nat.one_pos;have hn:(t 0).n=Y.n 0:=h.re.tn 0 Nat.one_pos
 have hc:∀j,j<nb→W.cell? ⟨g,j,none⟩=some (.pointer (some ⟨Y.T (j+1),0,none⟩)):=fun j hj=>by
  have:=h.un.cells (g:=g) rfl j (.pointer (some ⟨Y.T (j+1),0,none⟩)) (by simp [newsV,hj])
  rwa [add_at,Nat.zero_add] at this
 rcases h.pl.N with hN|hN
 ·obtain rfl:nb=1:=by omega
  refine (new_one (Y.T 0) (Y.B 0) (t 0) dp g 0 ⟨Y.T 1,0,none⟩ cap W hT (hc 0 (by decide))).mono fun e w' ⟨V,he,hr,hV,hb⟩=>⟨V,he,⟨?_⟩,hV,hb⟩
  rw [hr,hn,hN];rfl
 ·obtain rfl:nb=2:=by omega
  have e:=h.pl.dp hN;rw [e];refine (new_two (Y.T 0) (Y.B 0) (t 0) d h.pl.ld g 0 ⟨Y.T 1,0,none⟩ ⟨Y.T 2,0,none⟩ cap W hT (hc 0 (by decide)) (hc 1 (by decide))).mono fun e w' ⟨V,he,hr,hV,hb⟩=>⟨V,he,⟨?_⟩,hV,hb⟩
  rw [hr,hn,hN];rfl
end
set_option maxRecDepth 20000 in
set_option maxHeartbeats 2000000 in
theorem begin_any(a:String→Addr)(w0 w:World)(Y:Lay)(D:Nat)(Q:Nat→Nat)(n1 d:Nat)(dp:Int)(GB cB GT dn:Nat)(t:Nat→Tb)(nb:Nat)(hnb:Y.N=nb+1)(HI:Hid (Bgn a w0 w Y D Q n1 d dp GB cB GT 1 dn t 0 0 (.slice none 0 0) (.slice none 0 0) w)) :
  Calls Tryz.prog 153 #[.pointer (some ⟨D,0,none⟩)] w fun e w'=>e=.returned (.tuple #[])∧∃V GT' cT' GU cU,Mov a w0 Y D Q n1 d dp GT' cT' GU cU V 0 dn false t w'∧Past [D,Q 1,Q (Y.N-1)] w w'∧w.heap.size≤V∧w.heap.size≤GT'∧w.heap.size≤GU:=by
 obtain⟨i0,hi0,hq0,hq1,hq2⟩:=info_parts infoTab;have hnb2:1≤nb∧nb≤2:=by have:=HI.out.pl.N;omega
 have h3:w.cell? ⟨D,3,none⟩=some (.slice (some ⟨GB,0,none⟩) nb cB):=by have:=HI.out.row.c3;rwa [hnb] at this
 go_enter Tryz.func153,Tryz.ntmps153
 go_wp2_with (fail)
 go_loopw [9] (fun i wr=>∃j:Nat,j≤nb∧i=.int .i64 j∧Hid (∃v,Bgn a w0 w Y D Q n1 d dp GB cB GT 1 dn t j j v v wr)) (fun i _=>nb-(intOf i).toNat)
 case atStart=>exact⟨0,by omega,rfl,Lib.hid ⟨_,HI.out⟩⟩
 case round =>
  obtain⟨j,hj,rfl,HR⟩:=hrel;clear HI
  rcases Nat.lt_or_ge j nb with hjl|hjl
  ·have hji:(j:Int)<(nb:Int):=by omega
   have hjN:j+1<Y.N:=by omega
   obtain⟨v,hB⟩:=HR.out;have hc:wr.cell? ⟨GB,j,none⟩=some (.pointer (some ⟨Q (j+1),0,none⟩)):=hB.gb (j+1) (by omega) (by omega);have hadd:(⟨GB,0,none⟩:Addr).add j=⟨GB,j,none⟩:=by rw [add_at,Nat.zero_add]
   have HB:=Lib.hid (hB.read (under.drew_below wr));clear HR
   go_wp2_with (fail)
   clear hB hc hadd;refine wp_region_any (by kernel_rfl) ?_;refine wpAny_take (i:=0) (v:=.pointer (some ⟨D,0,none⟩)) rfl (by kernel_rfl) (by kernel_rfl) (by kernel_rfl) (fun _ _ _ h=>h) (Or.inl ⟨by rfl,fun wx=>by go_simp⟩) ?_;refine wpAny_take (i:=1) (v:=.pointer (some ⟨D,0,none⟩)) rfl (by kernel_rfl) (by kernel_rfl) (by kernel_rfl) (fun _ _ _ h=>h) (Or.inl ⟨by rfl,fun wx=>by go_simp⟩) ?_;refine wpAny_take (i:=2) (v:=.pointer (some ⟨D,0,none⟩)) rfl (by kernel_rfl) (by kernel_rfl) (by kernel_rfl) (fun _ _ _ h=>h) (Or.inl ⟨by rfl,fun wx=>by go_simp⟩) ?_;refine wpAny_take (i:=3) (v:=.pointer (some ⟨D,6,none⟩)) rfl (by kernel_rfl) (by kernel_rfl) (by kernel_rfl) (fun _ _ _ h=>h) (Or.inl ⟨by rfl,fun wx=>by go_simp⟩) ?_;refine wpAny_take (i:=5) (v:=.pointer (some ⟨Q (j+1),0,none⟩)) rfl (by kernel_rfl) (by kernel_rfl) (by kernel_rfl) (fun _ _ _ h=>h) (Or.inl ⟨by rfl,fun wx=>by go_simp⟩) ?_;refine wpAny_ready (rs:=[4,6]) (by kernel_rfl) (by simp) ?_;refine AllReady.cons rfl (fun K hK=>?_) ?_
   ·have h6:=HB.out.row.c6
    go_simp;refine hK _ _ ?_;clear hK K h6;refine wpAny_ready (rs:=[6]) (by kernel_rfl) (by simp) ?_;refine AllReady.cons rfl (fun K hK=>?_) AllReady.nil
    have cT:=(show Calls Tryz.prog 175 #[.pointer (some ⟨Q (j+1),0,none⟩)] wr.drew (fun e w'=>e=.returned (.tuple #[.pointer (some ⟨Y.T (j+1),0,none⟩),.nilIface])∧Hid (Bgn a w0 w Y D Q n1 d dp GB cB GT 1 dn t (j+1) j v v w')) from
     (build.take_on (Q (j+1)) n1 ⟨Y.T (j+1),0,none⟩ (okN_le HB.out.pl.o1) wr.drew (by have:=HB.out.bx (j+1) (by omega) hjN;rwa [if_neg (by omega)] at this)).mono fun e w' ⟨he,q,hq⟩=>⟨he,by rw [hq];exact Lib.hid (HB.out.take hjN q)⟩)
    go_simp;refine cT.mono ?_;clear cT;rintro e y1 ⟨rfl,HB⟩;refine hK _ _ ?_;clear hK K;refine wpAny_take (i:=7) (v:=.pointer (some ⟨Y.T (j+1),0,none⟩)) rfl (by kernel_rfl) (by kernel_rfl) (by kernel_rfl) (fun _ _ _ h=>h) (Or.inl ⟨by rfl,fun wx=>by go_simp⟩) ?_;refine wpAny_take (i:=8) (v:=.nilIface) rfl (by kernel_rfl) (by kernel_rfl) (by kernel_rfl) (fun _ _ _ h=>h) (Or.inl ⟨by rfl,fun wx=>by go_simp⟩) ?_;refine wpAny_ready (rs:=[9]) (by kernel_rfl) (by simp) ?_;refine AllReady.cons rfl (fun K hK=>?_) AllReady.nil;go_simp;refine (must_tab _ _).mono ?_;rintro e y2 ⟨rfl,rfl⟩;refine hK _ _ ?_;clear hK K;refine wpAny_ready (rs:=[10]) (by kernel_rfl) (by simp) ?_;refine AllReady.cons rfl (fun K hK=>?_) AllReady.nil;go_simp;refine hK _ _ ?_;clear hK K;have HB:=Lib.hid (HB.out.read (new_block _ (.cells #[.pointer (some ⟨Y.T (j+1),0,none⟩)] 86)));have HN:=Lib.hid (newc _ (.pointer (some ⟨Y.T (j+1),0,none⟩)) 86:World.cell? (World.alloc y1 _) _=_);generalize y1.alloc (.cells #[.pointer (some ⟨Y.T (j+1),0,none⟩)] 86)=y3 at *
    generalize y1.heap.size=A at *
    refine wpAny_ready (rs:=[11]) (by kernel_rfl) (by simp) ?_;refine AllReady.cons rfl (fun K hK=>?_) AllReady.nil;have zs:=HB.out.past.size
    refine app.step_append_val _ (by rfl) _ _ 132 (by rfl) w.heap.size 86 i0 (.pointer none) 1 8 Tryz.underlying132 hi0 hq0 hq1 hq2 rfl (by decide) v j (newsV Y j) (by rfl) HB.out.un _ 1 [.pointer (some ⟨Y.T (j+1),0,none⟩)] (by rfl) ⟨_,_,rfl,fun i u hu=>by
     obtain rfl:i=0:=by
      rcases Nat.eq_zero_or_pos i with e|e
      ·exact e
      ·rw [List.getElem?_eq_none (by simp;omega)] at hu;cases hu
     obtain rfl:(.pointer (some ⟨Y.T (j+1),0,none⟩):Value)=u:=by simpa using hu
     exact⟨_,rfl,by rw [add_at];exact HN.out⟩⟩ rfl (by simp [Value.oneCell']) (by simp only [maxLen];omega) (by omega) (by omega) ?_
    intro v24 y4 hown4 hgrow4;refine hK _ _ ?_;clear hK K;have HB:=Lib.hid (HB.out.grow hgrow4 hown4);obtain⟨g24,c24,rfl,_,_⟩:=hown4.form (by omega);clear hown4 hgrow4 HN;refine wpAny_take (i:=12) (v:=.pointer (some ⟨D,0,none⟩)) rfl (by kernel_rfl) (by kernel_rfl) (by kernel_rfl) (fun _ _ _ h=>h) (Or.inl ⟨by rfl,fun wx=>by go_simp⟩) ?_;refine wpAny_take (i:=13) (v:=.pointer (some ⟨D,6,none⟩)) rfl (by kernel_rfl) (by kernel_rfl) (by kernel_rfl) (fun _ _ _ h=>h) (Or.inl ⟨by rfl,fun wx=>by go_simp⟩) ?_;refine wpAny_ready (rs:=[14]) (by kernel_rfl) (by simp) ?_;refine AllReady.cons rfl (fun K hK=>?_) AllReady.nil;have h6:=HB.out.row.c6;have hf:=HB.out.row.fz;go_simp;refine hK _ _ ?_;clear hK K h6 hf;have HB:=Lib.hid HB.out.store;refine wpAny_done (by kernel_rfl) ?_ _;go_wp2
    go_roundw
    case rel=>exact⟨j+1,by omega,by simp,Lib.hid ⟨_,HB.out⟩⟩
    case measure=>simp [intOf];omega
   ·refine AllReady.cons rfl (fun K hK=>?_) AllReady.nil
    have cT:=(show Calls Tryz.prog 175 #[.pointer (some ⟨Q (j+1),0,none⟩)] wr.drew (fun e w'=>e=.returned (.tuple #[.pointer (some ⟨Y.T (j+1),0,none⟩),.nilIface])∧Hid (Bgn a w0 w Y D Q n1 d dp GB cB GT 1 dn t (j+1) j v v w')) from
     (build.take_on (Q (j+1)) n1 ⟨Y.T (j+1),0,none⟩ (okN_le HB.out.pl.o1) wr.drew (by have:=HB.out.bx (j+1) (by omega) hjN;rwa [if_neg (by omega)] at this)).mono fun e w' ⟨he,q,hq⟩=>⟨he,by rw [hq];exact Lib.hid (HB.out.take hjN q)⟩)
    go_simp;refine cT.mono ?_;clear cT;rintro e y1 ⟨rfl,HB⟩;refine hK _ _ ?_;clear hK K;refine wpAny_take (i:=7) (v:=.pointer (some ⟨Y.T (j+1),0,none⟩)) rfl (by kernel_rfl) (by kernel_rfl) (by kernel_rfl) (fun _ _ _ h=>h) (Or.inl ⟨by rfl,fun wx=>by go_simp⟩) ?_;refine wpAny_take (i:=8) (v:=.nilIface) rfl (by kernel_rfl) (by kernel_rfl) (by kernel_rfl) (fun _ _ _ h=>h) (Or.inl ⟨by rfl,fun wx=>by go_simp⟩) ?_;refine wpAny_ready (rs:=[4,9]) (by kernel_rfl) (by simp) ?_;refine AllReady.cons rfl (fun K hK=>?_) ?_
    ·have h6:=HB.out.row.c6
     go_simp;refine hK _ _ ?_;clear hK K h6;refine wpAny_ready (rs:=[9]) (by kernel_rfl) (by simp) ?_;refine AllReady.cons rfl (fun K hK=>?_) AllReady.nil;go_simp;refine (must_tab _ _).mono ?_;rintro e y2 ⟨rfl,rfl⟩;refine hK _ _ ?_;clear hK K;refine wpAny_ready (rs:=[10]) (by kernel_rfl) (by simp) ?_;refine AllReady.cons rfl (fun K hK=>?_) AllReady.nil;go_simp;refine hK _ _ ?_;clear hK K;have HB:=Lib.hid (HB.out.read (new_block _ (.cells #[.pointer (some ⟨Y.T (j+1),0,none⟩)] 86)));have HN:=Lib.hid (newc _ (.pointer (some ⟨Y.T (j+1),0,none⟩)) 86:World.cell? (World.alloc y1 _) _=_);generalize y1.alloc (.cells #[.pointer (some ⟨Y.T (j+1),0,none⟩)] 86)=y3 at *
     generalize y1.heap.size=A at *
     refine wpAny_ready (rs:=[11]) (by kernel_rfl) (by simp) ?_;refine AllReady.cons rfl (fun K hK=>?_) AllReady.nil;have zs:=HB.out.past.size
     refine app.step_append_val _ (by rfl) _ _ 132 (by rfl) w.heap.size 86 i0 (.pointer none) 1 8 Tryz.underlying132 hi0 hq0 hq1 hq2 rfl (by decide) v j (newsV Y j) (by rfl) HB.out.un _ 1 [.pointer (some ⟨Y.T (j+1),0,none⟩)] (by rfl) ⟨_,_,rfl,fun i u hu=>by
      obtain rfl:i=0:=by
       rcases Nat.eq_zero_or_pos i with e|e
       ·exact e
       ·rw [List.getElem?_eq_none (by simp;omega)] at hu;cases hu
      obtain rfl:(.pointer (some ⟨Y.T (j+1),0,none⟩):Value)=u:=by simpa using hu
      exact⟨_,rfl,by rw [add_at];exact HN.out⟩⟩ rfl (by simp [Value.oneCell']) (by simp only [maxLen];omega) (by omega) (by omega) ?_
     intro v24 y4 hown4 hgrow4;refine hK _ _ ?_;clear hK K;have HB:=Lib.hid (HB.out.grow hgrow4 hown4);obtain⟨g24,c24,rfl,_,_⟩:=hown4.form (by omega);clear hown4 hgrow4 HN;refine wpAny_take (i:=12) (v:=.pointer (some ⟨D,0,none⟩)) rfl (by kernel_rfl) (by kernel_rfl) (by kernel_rfl) (fun _ _ _ h=>h) (Or.inl ⟨by rfl,fun wx=>by go_simp⟩) ?_;refine wpAny_take (i:=13) (v:=.pointer (some ⟨D,6,none⟩)) rfl (by kernel_rfl) (by kernel_rfl) (by kernel_rfl) (fun _ _ _ h=>h) (Or.inl ⟨by rfl,fun wx=>by go_simp⟩) ?_;refine wpAny_ready (rs:=[14]) (by kernel_rfl) (by simp) ?_;refine AllReady.cons rfl (fun K hK=>?_) AllReady.nil;have h6:=HB.out.row.c6;have hf:=HB.out.row.fz;go_simp;refine hK _ _ ?_;clear hK K h6 hf;have HB:=Lib.hid HB.out.store;refine wpAny_done (by kernel_rfl) ?_ _;go_wp2
     go_roundw
     case rel=>exact⟨j+1,by omega,by simp,Lib.hid ⟨_,HB.out⟩⟩
     case measure=>simp [intOf];omega
    ·refine AllReady.cons rfl (fun K hK=>?_) AllReady.nil
     go_simp;refine (must_tab _ _).mono ?_;rintro e y2 ⟨rfl,rfl⟩;refine hK _ _ ?_;clear hK K;refine wpAny_ready (rs:=[4,10]) (by kernel_rfl) (by simp) ?_;refine AllReady.cons rfl (fun K hK=>?_) ?_
     ·have h6:=HB.out.row.c6
      go_simp;refine hK _ _ ?_;clear hK K h6;refine wpAny_ready (rs:=[10]) (by kernel_rfl) (by simp) ?_;refine AllReady.cons rfl (fun K hK=>?_) AllReady.nil;go_simp;refine hK _ _ ?_;clear hK K;have HB:=Lib.hid (HB.out.read (new_block _ (.cells #[.pointer (some ⟨Y.T (j+1),0,none⟩)] 86)));have HN:=Lib.hid (newc _ (.pointer (some ⟨Y.T (j+1),0,none⟩)) 86:World.cell? (World.alloc y1 _) _=_);generalize y1.alloc (.cells #[.pointer (some ⟨Y.T (j+1),0,none⟩)] 86)=y3 at *
      generalize y1.heap.size=A at *
      refine wpAny_ready (rs:=[11]) (by kernel_rfl) (by simp) ?_;refine AllReady.cons rfl (fun K hK=>?_) AllReady.nil;have zs:=HB.out.past.size
      refine app.step_append_val _ (by rfl) _ _ 132 (by rfl) w.heap.size 86 i0 (.pointer none) 1 8 Tryz.underlying132 hi0 hq0 hq1 hq2 rfl (by decide) v j (newsV Y j) (by rfl) HB.out.un _ 1 [.pointer (some ⟨Y.T (j+1),0,none⟩)] (by rfl) ⟨_,_,rfl,fun i u hu=>by
       obtain rfl:i=0:=by
        rcases Nat.eq_zero_or_pos i with e|e
        ·exact e
        ·rw [List.getElem?_eq_none (by simp;omega)] at hu;cases hu
       obtain rfl:(.pointer (some ⟨Y.T (j+1),0,none⟩):Value)=u:=by simpa using hu
       exact⟨_,rfl,by rw [add_at];exact HN.out⟩⟩ rfl (by simp [Value.oneCell']) (by simp only [maxLen];omega) (by omega) (by omega) ?_
      intro v24 y4 hown4 hgrow4;refine hK _ _ ?_;clear hK K;have HB:=Lib.hid (HB.out.grow hgrow4 hown4);obtain⟨g24,c24,rfl,_,_⟩:=hown4.form (by omega);clear hown4 hgrow4 HN;refine wpAny_take (i:=12) (v:=.pointer (some ⟨D,0,none⟩)) rfl (by kernel_rfl) (by kernel_rfl) (by kernel_rfl) (fun _ _ _ h=>h) (Or.inl ⟨by rfl,fun wx=>by go_simp⟩) ?_;refine wpAny_take (i:=13) (v:=.pointer (some ⟨D,6,none⟩)) rfl (by kernel_rfl) (by kernel_rfl) (by kernel_rfl) (fun _ _ _ h=>h) (Or.inl ⟨by rfl,fun wx=>by go_simp⟩) ?_;refine wpAny_ready (rs:=[14]) (by kernel_rfl) (by simp) ?_;refine AllReady.cons rfl (fun K hK=>?_) AllReady.nil;have h6:=HB.out.row.c6;have hf:=HB.out.row.fz;go_simp;refine hK _ _ ?_;clear hK K h6 hf;have HB:=Lib.hid HB.out.store;refine wpAny_done (by kernel_rfl) ?_ _;go_wp2
      go_roundw
      case rel=>exact⟨j+1,by omega,by simp,Lib.hid ⟨_,HB.out⟩⟩
      case measure=>simp [intOf];omega
     ·refine AllReady.cons rfl (fun K hK=>?_) AllReady.nil
      go_simp;refine hK _ _ ?_;clear hK K;have HB:=Lib.hid (HB.out.read (new_block _ (.cells #[.pointer (some ⟨Y.T (j+1),0,none⟩)] 86)));have HN:=Lib.hid (newc _ (.pointer (some ⟨Y.T (j+1),0,none⟩)) 86:World.cell? (World.alloc y1 _) _=_);generalize y1.alloc (.cells #[.pointer (some ⟨Y.T (j+1),0,none⟩)] 86)=y3 at *
      generalize y1.heap.size=A at *
      refine wpAny_ready (rs:=[4]) (by kernel_rfl) (by simp) ?_;refine AllReady.cons rfl (fun K hK=>?_) AllReady.nil;have h6:=HB.out.row.c6;go_simp;refine hK _ _ ?_;clear hK K h6;refine wpAny_ready (rs:=[11]) (by kernel_rfl) (by simp) ?_;refine AllReady.cons rfl (fun K hK=>?_) AllReady.nil;have zs:=HB.out.past.size
      refine app.step_append_val _ (by rfl) _ _ 132 (by rfl) w.heap.size 86 i0 (.pointer none) 1 8 Tryz.underlying132 hi0 hq0 hq1 hq2 rfl (by decide) v j (newsV Y j) (by rfl) HB.out.un _ 1 [.pointer (some ⟨Y.T (j+1),0,none⟩)] (by rfl) ⟨_,_,rfl,fun i u hu=>by
       obtain rfl:i=0:=by
        rcases Nat.eq_zero_or_pos i with e|e
        ·exact e
        ·rw [List.getElem?_eq_none (by simp;omega)] at hu;cases hu
       obtain rfl:(.pointer (some ⟨Y.T (j+1),0,none⟩):Value)=u:=by simpa using hu
       exact⟨_,rfl,by rw [add_at];exact HN.out⟩⟩ rfl (by simp [Value.oneCell']) (by simp only [maxLen];omega) (by omega) (by omega) ?_
      intro v24 y4 hown4 hgrow4;refine hK _ _ ?_;clear hK K;have HB:=Lib.hid (HB.out.grow hgrow4 hown4);obtain⟨g24,c24,rfl,_,_⟩:=hown4.form (by omega);clear hown4 hgrow4 HN;refine wpAny_take (i:=12) (v:=.pointer (some ⟨D,0,none⟩)) rfl (by kernel_rfl) (by kernel_rfl) (by kernel_rfl) (fun _ _ _ h=>h) (Or.inl ⟨by rfl,fun wx=>by go_simp⟩) ?_;refine wpAny_take (i:=13) (v:=.pointer (some ⟨D,6,none⟩)) rfl (by kernel_rfl) (by kernel_rfl) (by kernel_rfl) (fun _ _ _ h=>h) (Or.inl ⟨by rfl,fun wx=>by go_simp⟩) ?_;refine wpAny_ready (rs:=[14]) (by kernel_rfl) (by simp) ?_;refine AllReady.cons rfl (fun K hK=>?_) AllReady.nil;have h6:=HB.out.row.c6;have hf:=HB.out.row.fz;go_simp;refine hK _ _ ?_;clear hK K h6 hf;have HB:=Lib.hid HB.out.store;refine wpAny_done (by kernel_rfl) ?_ _;go_wp2
      go_roundw
      case rel=>exact⟨j+1,by omega,by simp,Lib.hid ⟨_,HB.out⟩⟩
      case measure=>simp [intOf];omega
  ·obtain rfl:j=nb:=by omega
   obtain⟨v,hB⟩:=HR.out;obtain⟨g24,c24,rfl,_,_⟩:=hB.un.form (by omega);have HB:=Lib.hid hB;have c4:=hB.row.c4;have c2:=hB.row.c2;have c6:=hB.row.c6;have cg:=hB.gt;have c5:=hB.row.c5;have cf:=hB.row.fz;clear hB HR
   go_wp2_with (fail)
   refine wp_region_any (by kernel_rfl) ?_;refine wpAny_take (i:=0) (v:=.pointer (some ⟨D,0,none⟩)) rfl (by kernel_rfl) (by kernel_rfl) (by kernel_rfl) (fun _ _ _ h=>h) (Or.inl ⟨by rfl,fun wx=>by go_simp⟩) ?_;refine wpAny_head (C:=fun w'=>∃q,w'=wr.drewN q) (g:=7) [false,true,true,true,true,true,true,true,true,true,true,true,true,true,true] (by kernel_rfl) ⟨1,rfl⟩ ?_;simp only [sel,setAll]
   iterate 14 quiet_step (fail)
   refine wpQuiet_nil ?_;rintro _ ⟨q,rfl⟩;have cE:=ev_new (HB.out.read (below_drewN' wr q)) hnb;have HB:=Lib.hid (HB.out.read (below_drewN' wr q));clear c4 c5 c2 c6 cg cf;generalize wr.drewN q=w3 at *
   refine wpAny_ready (rs:=[15]) (by kernel_rfl) (by simp) ?_;refine AllReady.cons rfl (fun K hK=>?_) AllReady.nil;go_simp;refine cE.mono ?_;clear cE;rintro e w4 ⟨V,rfl,hE,hV,hb4⟩;refine hK _ _ ?_;clear hK K;have H2:=Lib.hid (HB.out.two (cb:=0) hE hV hb4);clear HB hE hV hb4;refine wpAny_take (i:=16) (v:=.pointer (some ⟨V,0,none⟩)) rfl (by kernel_rfl) (by kernel_rfl) (by kernel_rfl) (fun _ _ _ h=>h) (Or.inl ⟨by rfl,fun wx=>by go_simp⟩) ?_;refine wpAny_take (i:=17) (v:=.nilIface) rfl (by kernel_rfl) (by kernel_rfl) (by kernel_rfl) (fun _ _ _ h=>h) (Or.inl ⟨by rfl,fun wx=>by go_simp⟩) ?_;refine wpAny_ready (rs:=[18]) (by kernel_rfl) (by simp) ?_;refine AllReady.cons rfl (fun K hK=>?_) AllReady.nil;go_simp;refine (must_ev _ _).mono ?_;rintro e w5 ⟨rfl,rfl⟩;refine hK _ _ ?_;clear hK K;refine wpAny_take (i:=19) (v:=.pointer (some ⟨D,0,none⟩)) rfl (by kernel_rfl) (by kernel_rfl) (by kernel_rfl) (fun _ _ _ h=>h) (Or.inl ⟨by rfl,fun wx=>by go_simp⟩) ?_;refine wpAny_take (i:=20) (v:=.pointer (some ⟨D,5,none⟩)) rfl (by kernel_rfl) (by kernel_rfl) (by kernel_rfl) (fun _ _ _ h=>h) (Or.inl ⟨by rfl,fun wx=>by go_simp⟩) ?_;refine wpAny_ready (rs:=[21]) (by kernel_rfl) (by simp) ?_;refine AllReady.cons rfl (fun K hK=>?_) AllReady.nil;obtain⟨sB,hr4⟩:=H2.out.row;have c5:=hr4.c5;have cf:=hr4.fz;go_simp;refine hK _ _ ?_;clear hK K c5 cf hr4;have H2:=Lib.hid H2.out.store;refine wpAny_done (by kernel_rfl) ?_ _;generalize w4.setCell ⟨D,5,none⟩ (.pointer (some ⟨V,0,none⟩))=w6 at *
   go_wp2_with (fail)
   obtain⟨sB,hr6⟩:=H2.out.row;have c4:=hr6.c4;have c6:=hr6.c6;refine wp_region_any (by kernel_rfl) ?_;refine wpAny_take (i:=0) (v:=.pointer (some ⟨D,0,none⟩)) rfl (by kernel_rfl) (by kernel_rfl) (by kernel_rfl) (fun _ _ _ h=>h) (Or.inl ⟨by rfl,fun wx=>by go_simp⟩) ?_;refine wpAny_take (i:=1) (v:=.pointer (some ⟨D,0,none⟩)) rfl (by kernel_rfl) (by kernel_rfl) (by kernel_rfl) (fun _ _ _ h=>h) (Or.inl ⟨by rfl,fun wx=>by go_simp⟩) ?_;refine wpAny_take (i:=2) (v:=.pointer (some ⟨D,0,none⟩)) rfl (by kernel_rfl) (by kernel_rfl) (by kernel_rfl) (fun _ _ _ h=>h) (Or.inl ⟨by rfl,fun wx=>by go_simp⟩) ?_;refine wpAny_take (i:=3) (v:=.pointer (some ⟨D,4,none⟩)) rfl (by kernel_rfl) (by kernel_rfl) (by kernel_rfl) (fun _ _ _ h=>h) (Or.inl ⟨by rfl,fun wx=>by go_simp⟩) ?_;refine wpAny_take (i:=5) (v:=.pointer (some ⟨D,0,none⟩)) rfl (by kernel_rfl) (by kernel_rfl) (by kernel_rfl) (fun _ _ _ h=>h) (Or.inl ⟨by rfl,fun wx=>by go_simp⟩) ?_;refine wpAny_take (i:=6) (v:=.pointer (some ⟨D,0,none⟩)) rfl (by kernel_rfl) (by kernel_rfl) (by kernel_rfl) (fun _ _ _ h=>h) (Or.inl ⟨by rfl,fun wx=>by go_simp⟩) ?_;refine wpAny_take (i:=7) (v:=.pointer (some ⟨D,6,none⟩)) rfl (by kernel_rfl) (by kernel_rfl) (by kernel_rfl) (fun _ _ _ h=>h) (Or.inl ⟨by rfl,fun wx=>by go_simp⟩) ?_;refine wpAny_head (C:=fun w'=>∃q,w'=w6.drewN q) (g:=4) [false,false,false,false,true,false,false,false,true] (by kernel_rfl) ⟨1,rfl⟩ ?_;simp only [sel,setAll]
   iterate 2 quiet_step (fail)
   refine wpQuiet_nil ?_;rintro _ ⟨q,rfl⟩;have H2:=Lib.hid (H2.out.read (below_drewN' w6 q));clear c4 c6 hr6;generalize w6.drewN q=w7 at *
   have A1:∀b,some (⟨GT,0,none⟩:Addr)=some b→∀i u,([.pointer (some ⟨Y.T 0,0,none⟩)]:List Value)[i]?=some u→w7.cell? (b.add i)=some u:=fun b hb i u hu=>by
    injection hb with hb;subst hb
    obtain rfl:i=0:=by
     rcases Nat.eq_zero_or_pos i with e|e
     ·exact e
     ·rw [List.getElem?_eq_none (by simp;omega)] at hu;cases hu
    obtain rfl:(.pointer (some ⟨Y.T 0,0,none⟩):Value)=u:=by simpa using hu
    rw [add_at];exact H2.out.gt
   have A2:∀i u,(newsV Y j)[i]?=some u→w7.cell? ((⟨g24,0,none⟩:Addr).add i)=some u:=fun i u hu=>by
    have hi:i<j:=by
     have:=(List.getElem?_eq_some_iff.1 hu).1
     rwa [newsV_length] at this
    have hu':(newsV Y j)[i]?=some (.pointer (some ⟨Y.T (i+1),0,none⟩)):=by simp [newsV,hi]
    rw [hu'] at hu;obtain rfl:(.pointer (some ⟨Y.T (i+1),0,none⟩):Value)=u:=by simpa using hu
    rw [add_at,Nat.zero_add];exact H2.out.gu i hi
   have A3:∀u∈newsV Y j,u.oneCell'=true:=fun u hu=>by
    obtain⟨i,_,rfl⟩:=List.mem_map.1 hu
    rfl
   have A4:=newsV_length Y j;have HA:=Lib.hid (And.intro A1 (And.intro A2 (And.intro A3 A4)));clear A1 A2 A3 A4;refine wpAny_rest 9 rfl (by kernel_rfl) ?_;simp only [List.drop_succ_cons,List.drop_zero];refine wpList_append_grows _ rfl _ _ 132 rfl 86 i0 (.pointer none) 1 8 Tryz.underlying132 hi0 hq0 hq1 hq2 rfl (by decide) (some ⟨GT,0,none⟩) 1 1 [.pointer (some ⟨Y.T 0,0,none⟩)] (by rfl) (by simp) rfl HA.out.1 ⟨g24,0,none⟩ j c24 (newsV Y j) (by rfl) (by rw [HA.out.2.2.2];omega) HA.out.2.1 HA.out.2.2.1 (by omega) (by simp only [maxLen];omega) (by omega) ?_;intro v9 w9 hown9 hgrow9;obtain⟨GT',cT',rfl,z1,z2,hr9,hM9,hp9⟩:=H2.out.mov hnb hgrow9 hown9;have c4:=hr9.c4;have cf:=hr9.fz;have HM:=Lib.hid (And.intro hM9 hp9);clear hown9 hgrow9 hM9 hp9 hr9;go_wp2
   go_end0
   exact⟨rfl,V,GT',cT',g24,c24,HM.out.1,HM.out.2,by have:=H2.out.hV;have:=H2.out.hg;omega,z2,H2.out.hg⟩
theorem kk1(n1 p:Nat):kk n1 p 1=min p n1:=by unfold kk;simp
theorem kk2(n1 p:Nat):kk n1 p 2=min (p-n1) n1:=by unfold kk;simp
section
variable {a:String→Addr} {w0 w:World} {Y:Lay} {D:Nat} {Q:Nat→Nat} {n1 d:Nat} {dp:Int} {GB cB GT cT p dn:Nat} {t:Nat→Tb} {W W':World} {Bm:Nat} {m m':Mt}
theorem Pre.bd(h:Pre a w0 Y D Q n1 d dp GB cB GT cT p dn t W)(hm:MAt Bm 0 m W)(hok:m.Ok)(hB:Bm∉fpP Y D Q GB GT){j:Nat}(h1:1≤j)(hj:j<Y.N):build.Bd (Q j) (Y.T j) (Y.B j) n1 (kk n1 p j) (some ⟨Y.T j,0,none⟩) Bm 0 m W:=by
 have nQ:=h.pl.nQ j h1 hj;have tT:=h.pl.tin hj;have nB:∀b∈Y.tall,Bm≠b:=fun b hb e=>hB (by subst e;simp only [fpP,List.mem_cons];exact .inr (.inr (.inr (.inr (.inr hb)))))
 exact⟨h.bx j h1 hj,h.tb j h1 hj,hm,hok,fun e=>nQ (e ▸ tT.1),fun e=>nQ (e ▸ tT.2),fun e=>hB (e ▸ fpP_q h.pl.N h1 hj),nB _ tT.1,nB _ tT.2⟩
theorem Pre.next(h:Pre a w0 Y D Q n1 d dp GB cB GT cT p dn t W){j:Nat}(hj:j+1<Y.N)(h1:j*n1≤p)(h2:p<j*n1+n1)(hB:Bm∉fpP Y D Q GB GT)(hB0:w0.heap.size≤Bm)(hb:build.Bd (Q (j+1)) (Y.T (j+1)) (Y.B (j+1)) n1 (kk n1 p (j+1)+1) (some ⟨Y.T (j+1),0,none⟩) Bm 0 m' W')(hp:Past [Q (j+1),Y.T (j+1),Y.B (j+1),Bm] W W'):Pre a w0 Y D Q n1 d dp GB cB GT cT (p+1) dn t W':=by
 have q1:1≤j+1:=by omega
 have nQ:=h.pl.nQ _ q1 hj;have nD:=h.pl.qD _ q1 hj;have tT:=h.pl.tin hj;have mB:∀b,b∈fpP Y D Q GB GT→b≠Bm:=fun b hb e=>hB (e ▸ hb)
 have iT:∀b∈Y.tall,b∈fpP Y D Q GB GT:=fun b hb=>by simp only [fpP,List.mem_cons];exact .inr (.inr (.inr (.inr (.inr hb))))
 have no:∀b,b∈fpP Y D Q GB GT→b∉Y.tall→b≠Q (j+1)→b∉[Q (j+1),Y.T (j+1),Y.B (j+1),Bm]:=fun b hb ht hq e=>by
  simp only [List.mem_cons,List.not_mem_nil,or_false] at e
  rcases e with e|e|e|e
  ·exact hq e
  ·exact ht (e ▸ tT.1)
  ·exact ht (e ▸ tT.2)
  ·exact mB b hb e
 have nt:∀i,i<Y.N→i≠j+1→∀b∈[Y.T i,Y.B i],b∉[Q (j+1),Y.T (j+1),Y.B (j+1),Bm]:=fun i hi hne b hb e=>by
  have hs:=h.pl.sep i (j+1) hi hj hne b hb;have ht:b∈Y.tall:=Lay.tin hi hb;simp only [List.mem_cons,List.not_mem_nil,or_false,not_or] at e hs
  rcases e with e|e|e|e
  ·exact nQ (e ▸ ht)
  ·exact hs.1 e
  ·exact hs.2 e
  ·exact mB b (iT b ht) e
 have ek:∀i,1≤i→i<Y.N→i≠j+1→kk n1 (p+1) i=kk n1 p i:=fun i h3 h4 h5=>by
  have hN:=h.pl.N;obtain rfl|rfl:j=0∨j=1:=by omega
  ·obtain rfl:i=2:=by omega
   rw [kk2,kk2];omega
  ·obtain rfl:i=1:=by omega
   rw [kk1,kk1];omega
 have ej:kk n1 (p+1) (j+1)=kk n1 p (j+1)+1:=by
  have hN:=h.pl.N;obtain rfl|rfl:j=0∨j=1:=by omega
  ·rw [kk1,kk1];omega
  ·rw [kk2,kk2];omega
 refine⟨h.pl,h.row.past hp (no D (by simp [fpP]) h.pl.nD nD.symm),fun i h3 h4=>hp.cell (h.gb i h3 h4) (no GB (by simp [fpP]) h.nGB.1 (h.nGB.2.2 _ q1 hj).symm),hp.cell h.gt (no GT (by simp [fpP]) h.nGT.1 (h.nGT.2.2 _ q1 hj).symm), ?_,fun i h3 h4=>?_,fun i h3 h4=>?_,h.nGB,h.nGT,h.tn,h.c1⟩
 ·have hd:∀b∈[Q (j+1),Y.T (j+1),Y.B (j+1),Bm],w0.heap.size≤b:=fun b hb=>by
   simp only [List.mem_cons,List.not_mem_nil,or_false] at hb
   rcases hb with rfl|rfl|rfl|rfl
   ·exact h.pl.hQ _ q1 hj
   ·exact h.pl.ht _ tT.1
   ·exact h.pl.ht _ tT.2
   ·exact hB0
  refine h.re.past hp fun b hb=>⟨hd b hb,fun e=>?_⟩
  rcases cut_off e with rfl|rfl
  ·exact nt 0 (by have:=h.pl.N;omega) (by omega) (Y.T 0) (by simp) hb
  ·exact nt 0 (by have:=h.pl.N;omega) (by omega) (Y.B 0) (by simp) hb
 ·by_cases e:i=j+1
  ·subst e;rw [ej];exact hb.bx
  ·rw [ek i h3 h4 e]
   exact (h.bx i h3 h4).past hp (no (Q i) (fpP_q h.pl.N h3 h4) (h.pl.nQ i h3 h4) (h.pl.qq i _ h3 h4 q1 hj e))
 ·by_cases e:i=j+1
  ·subst e;rw [ej];exact hb.tb
  ·rw [ek i h3 h4 e]
   exact (h.tb i h3 h4).past hp (nt i h4 e _ (by simp)) (nt i h4 e _ (by simp))
theorem Pre.lts(h:Pre a w0 Y D Q n1 d dp GB cB GT cT p dn t W):∀b∈fpP Y D Q GB GT,b<W.heap.size:=fun b hb=>by
 have hN:=h.pl.N;simp only [fpP,List.mem_cons] at hb
 rcases hb with rfl|rfl|rfl|rfl|rfl|hb
 ·exact World.block_lt_of_cell? _ _ (h.gb 1 (Nat.le_refl _) (by omega))
 ·exact World.block_lt_of_cell? _ _ h.gt
 ·exact h.row.lt
 ·exact (h.bx 1 (Nat.le_refl _) (by omega)).lt
 ·exact (h.bx (Y.N-1) (by omega) (by omega)).lt
 ·obtain⟨i,hi,hb⟩:=List.mem_flatMap.1 hb
  have hi:=List.mem_range.1 hi
  rcases Nat.eq_zero_or_pos i with rfl|h0
  ·have:=h.re.at' 0 Nat.one_pos
   have hb':b=Y.T 0∨b=Y.B 0:=by simpa using hb
   rcases hb' with rfl|rfl
   ·exact this.lt
   ·exact this.lb
  ·have:=h.tb i h0 hi
   have hb':b=Y.T i∨b=Y.B i:=by simpa using hb
   rcases hb' with rfl|rfl
   ·exact this.lt
   ·exact this.lb
theorem kk_all(hN:Y.N=2∨Y.N=3){j:Nat}(h1:1≤j)(hj:j<Y.N):kk n1 ((Y.N-1)*n1) j=n1:=by
 rcases hN with hN|hN
 ·obtain rfl:j=1:=by omega
  rw [hN,kk1];simp
 ·obtain rfl|rfl:j=1∨j=2:=by omega
  ·rw [hN,kk1];simp;omega
  ·rw [hN,kk2];simp;omega
theorem Pre.bgn(h:Pre a w0 Y D Q n1 d dp GB cB GT cT ((Y.N-1)*n1) dn t W):Bgn a w0 W Y D Q n1 d dp GB cB GT 1 dn t 0 0 (.slice none 0 0) (.slice none 0 0) W:=by
 have hl:=h.lts;have hN:=h.pl.N;have hr:=h.row;rw [h.c1] at hr;refine⟨h.pl,hr,h.gb,h.gt,h.re,fun j h1 hj=>?_,fun j h1 hj=>?_,World.ownsRow_nil _ _ _ _,h.nGB,h.nGT,h.tn,h.re.bel.size,hl D (by simp [fpP]),hl GB (by simp [fpP]),hl GT (by simp [fpP]),fun j h1 hj=>hl _ (fpP_q hN h1 hj),fun b hb=>hl b (by simp only [fpP,List.mem_cons];exact .inr (.inr (.inr (.inr (.inr hb))))),Past.refl _ _⟩
 ·have:=h.bx j h1 hj
  rw [kk_all hN h1 hj] at this;rw [if_neg (by omega)];exact this
 ·have:=h.tb j h1 hj
  rwa [kk_all hN h1 hj] at this
end
abbrev wrP(Y:Lay)(D:Nat)(Q:Nat→Nat)(Bm:Nat):List Nat:=Bm::D::Q 1::Q (Y.N-1)::Y.tall
theorem wrP_j{Y:Lay}{D:Nat}{Q:Nat→Nat}{Bm j:Nat}(hN:Y.N=2∨Y.N=3)(hj:j+1<Y.N):∀b∈[Q (j+1),Y.T (j+1),Y.B (j+1),Bm],b∈wrP Y D Q Bm:=fun b hb=>by
 have tT:Y.T (j+1)∈Y.tall:=Lay.tin hj (by simp);have tB:Y.B (j+1)∈Y.tall:=Lay.tin hj (by simp);simp only [List.mem_cons,List.not_mem_nil,or_false] at hb
 rcases hb with rfl|rfl|rfl|rfl
 ·obtain e|e:j+1=1∨j+1=Y.N-1:=by omega
  ·rw [e];simp [wrP]
  ·rw [e];simp [wrP]
 ·simp only [wrP,List.mem_cons];exact .inr (.inr (.inr (.inr tT)))
 ·simp only [wrP,List.mem_cons];exact .inr (.inr (.inr (.inr tB)))
 ·simp [wrP]
set_option maxRecDepth 20000 in
set_option maxHeartbeats 2000000 in
theorem prepare_any(a:String→Addr)(w0 w:World)(Y:Lay)(D:Nat)(Q:Nat→Nat)(n1 d:Nat)(dp:Int)(GB cB GT cT p dn Bm:Nat)(m:Mt)(t:Nat→Tb)(nb:Nat)(hnb:Y.N=nb+1)(hp:p<(Y.N-1)*n1)(hP:Pre a w0 Y D Q n1 d dp GB cB GT cT p dn t w)(hm:MAt Bm 0 m w)(hok:m.Ok)(hu:m.unitE 1=0)(hB0:w0.heap.size≤Bm)(hB:Bm∉fpP Y D Q GB GT) :
  Calls Tryz.prog 122 #[.pointer (some ⟨D,0,none⟩),.pointer (some ⟨Bm,0,none⟩)] w fun e w'=>e=.returned (.tuple #[])∧MAt Bm 0 ((m.unit 1).visits 1) w'∧Past (wrP Y D Q Bm) w w' ∧
   ((p+1<(Y.N-1)*n1∧Pre a w0 Y D Q n1 d dp GB cB GT cT (p+1) dn t w')∨(p+1=(Y.N-1)*n1∧∃V GT' cT' GU cU,Mov a w0 Y D Q n1 d dp GT' cT' GU cU V 0 dn false t w'∧w.heap.size≤V∧w.heap.size≤GT'∧w.heap.size≤GU)):=by
 have hN:=hP.pl.N;have hn64:=okN_le hP.pl.o1;have hn1:=okN_pos hP.pl.o1;have h3:w.cell? ⟨D,3,none⟩=some (.slice (some ⟨GB,0,none⟩) nb cB):=by have:=hP.row.c3;rwa [hnb] at this
 have HI:=Lib.hid (show Pre a w0 Y D Q n1 d dp GB cB GT cT p dn t w∧MAt Bm 0 m w∧Past (wrP Y D Q Bm) w w from⟨hP,hm,Past.refl _ _⟩);clear hP hm
 go_enter Tryz.func122,Tryz.ntmps122
 go_wp2_with (fail)
 go_loopw [11] (fun i wr=>∃j:Nat,j≤nb∧i=.int .i64 j∧Hid (j*n1≤p∧Pre a w0 Y D Q n1 d dp GB cB GT cT p dn t wr∧MAt Bm 0 m wr∧Past (wrP Y D Q Bm) w wr)) (fun i _=>nb-(intOf i).toNat)
 case atStart=>exact⟨0,by omega,rfl,Lib.hid ⟨by omega,HI.out⟩⟩
 case round =>
  obtain⟨j,hj,rfl,HR⟩:=hrel;clear HI
  rcases Nat.lt_or_ge j nb with hjl|hjl
  ·have hji:(j:Int)<(nb:Int):=by omega
   have hjN:j+1<Y.N:=by omega
   obtain⟨hjp,hPr,hmr,hpr⟩:=HR.out;have hc:wr.cell? ⟨GB,j,none⟩=some (.pointer (some ⟨Q (j+1),0,none⟩)):=hPr.gb (j+1) (by omega) (by omega);have hadd:(⟨GB,0,none⟩:Addr).add j=⟨GB,j,none⟩:=by rw [add_at,Nat.zero_add]
   have hbd:=hPr.bd hmr hok hB (show 1≤j+1 by omega) hjN
   by_cases hlt:p<j*n1+n1
   ·have hk:kk n1 p (j+1)<n1:=by
     unfold kk;rw [show j+1-1=j by omega];omega
    have cS:=build.step_on a (Q (j+1)) (Y.T (j+1)) (Y.B (j+1)) n1 (kk n1 p (j+1)) Bm 0 m hk hn64 hu wr hbd (keepc (hPr.re.bel.mono (Nat.le_refl _)) hPr.re.base.limit);have HN:=Lib.hid (fun (W':World) hb hp'=>hPr.next (m':=(m.unit 1).visits 1) (W':=W') hjN hjp hlt hB hB0 hb hp');have HPR:=Lib.hid hpr;clear HR hPr hmr hpr hbd
    go_wp2_with (go_at_call 151;refine cS.mono ?_;rintro e w2 ⟨rfl,hb2,hp2⟩)
    have hP2:=HN.out _ hb2 hp2;have hp3:=HPR.out.trans (hp2.mono (wrP_j hN hjN));have hz:=HPR.out.size;have hm2:=hb2.mt;clear HN cS hb2 HPR hc hadd;have h3':w2.cell? ⟨D,3,none⟩=some (.slice (some ⟨GB,0,none⟩) nb cB):=by have:=hP2.row.c3;rwa [hnb] at this
    have h3u:=Under.cell h3';have hgl:w2.cell? ⟨GB,nb-1,none⟩=some (.pointer (some ⟨Q nb,0,none⟩)):=hP2.gb nb (by omega) (by omega);have hglu:=Under.cell hgl;have cL:=fun (y:Under w2)=>build.left_any (Q nb) n1 (kk n1 (p+1) nb) (some ⟨Y.T nb,0,none⟩) (by unfold kk;omega) hn64 y.W ((hP2.bx nb (by omega) (by omega)).keep y.below)
    have HX:=Lib.hid (show Pre a w0 Y D Q n1 d dp GB cB GT cT (p+1) dn t w2∧MAt Bm 0 ((m.unit 1).visits 1) w2∧Past (wrP Y D Q Bm) w w2 from⟨hP2,hm2,hp3⟩);have hz2:=hp2.size;clear hP2 hm2 hp3 hp2 h3' hgl
    by_cases hall:p+1=(Y.N-1)*n1
    ·have ek:n1-kk n1 (p+1) nb=0:=by rw [hall,kk_all hN (by omega) (by omega)];omega
     rw [ek] at cL;obtain rfl|rfl:nb=1∨nb=2:=by omega
     all_goals
      refine wp_region_under (by kernel_rfl) (by kernel_rfl) ?_
      repeat (go_big_quiet_step ((go_at_call 152;(with_reducible refine under_drew (cL _)))))
      refine wpQuiet_nil ?_;intro wz hwz;obtain⟨z,rfl⟩:=hwz;have hPz:=HX.out.1.read z.below;rw [hall] at hPz;have hpz:=HX.out.2.2.trans (Past.of z.below);have hmz:=HX.out.2.1.below z.below;have cB':=begin_any a w0 z.W Y D Q n1 d dp GB cB GT dn t _ hnb (Lib.hid hPz.bgn);have hlz:=hmz.lt;have HZ:=Lib.hid (And.intro hmz hpz);have hzz:=z.below.size;clear cL h3u hglu hmz hpz hPz HX;generalize z.W=w4 at *
      go_wp2_with (go_at_call 153;refine cB'.mono ?_;rintro e w5 ⟨rfl,V,GT',cT',GU,cU,hM,hp5,v1,v2,v3⟩)
      go_end0
      refine⟨rfl,HZ.out.1.past hp5 (fun e=>?_),HZ.out.2.trans (hp5.mono fun b hb=>?_),.inr ⟨hall,V,GT',cT',GU,cU,hM,by omega,by omega,by omega⟩⟩
      ·refine hB ?_
       simp only [List.mem_cons,List.not_mem_nil,or_false] at e;simp only [fpP,List.mem_cons]
       rcases e with e|e|e
       ·exact .inr (.inr (.inl e))
       ·exact .inr (.inr (.inr (.inl e)))
       ·exact .inr (.inr (.inr (.inr (.inl e))))
      ·simp only [List.mem_cons,List.not_mem_nil,or_false] at hb
       simp only [wrP,List.mem_cons]
       rcases hb with e|e|e
       ·exact .inr (.inl e)
       ·exact .inr (.inr (.inl e))
       ·exact .inr (.inr (.inr (.inl e)))
    ·have ek:n1-kk n1 (p+1) nb≠0:=by
      obtain rfl|rfl:nb=1∨nb=2:=by omega
      ·rw [kk1];rw [hnb] at hall hp;simp at hall hp;omega
      ·rw [kk2];rw [hnb] at hall hp;simp at hall hp;omega
     have d1:(((n1-kk n1 (p+1) nb:Nat):Int)==0)=false:=beq_eq_false_iff_ne.2 (by omega);have d2:((n1-kk n1 (p+1) nb:Nat)==0)=false:=beq_eq_false_iff_ne.2 ek;generalize n1-kk n1 (p+1) nb=lf at *
     obtain rfl|rfl:nb=1∨nb=2:=by omega
     all_goals
      refine wp_region_under (by kernel_rfl) (by kernel_rfl) ?_
      repeat (go_big_quiet_step ((go_at_call 152;(with_reducible refine under_drew (cL _)))))
      refine wpQuiet_nil ?_;intro wz hwz;obtain⟨z,rfl⟩:=hwz;have HZ:=Lib.hid (And.intro (HX.out.2.1.below z.below) (And.intro (HX.out.2.2.trans (Past.of z.below)) (HX.out.1.read z.below)));clear cL h3u hglu HX;generalize z.W=w4 at *
      go_wp2
      go_end0
      exact⟨rfl,HZ.out.1,HZ.out.2.1,.inl ⟨by omega,HZ.out.2.2⟩⟩
   ·have hk:kk n1 p (j+1)=n1:=by
     unfold kk;rw [show j+1-1=j by omega];omega
    have hbx:=hbd.bx;rw [hk] at hbx;have cS:=build.step_off (Q (j+1)) n1 (some ⟨Y.T (j+1),0,none⟩) hn64 (some ⟨Bm,0,none⟩) wr hbx;have HPR:=Lib.hid (And.intro hPr (And.intro hmr hpr));clear HR hPr hmr hpr hbd hbx
    go_wp2_with (go_at_call 151;refine cS.mono ?_;rintro e w2 ⟨rfl,q,rfl⟩)
    go_roundw
    case rel=>exact⟨j+1,by omega,by simp,Lib.hid ⟨by rw [Nat.add_mul];omega,HPR.out.1.read (below_drewN' _ _),HPR.out.2.1.below (below_drewN' _ _),HPR.out.2.2.trans (Past.of (below_drewN' _ _))⟩⟩
    case measure=>simp [intOf];omega
  ·obtain rfl:j=nb:=by omega
   obtain⟨hjp,_⟩:=HR.out;rw [hnb] at hp;exact absurd hp (by simp only [Nat.add_sub_cancel];omega)
def sG(rd:Bool)(N d nx:Nat)(t:Nat→Tb):Bool:=!rd||goods N d t (lst t nx)
def sT(rd:Bool)(N d nx:Nat)(t:Nat→Tb):Nat→Tb:=if rd=true then tak (mvs N d t (lst t nx)) nx else t
def sK(rd:Bool)(N d nx:Nat)(t:Nat→Tb):Nat:=if rd=true then lkc N d t (lst t nx) else 0
theorem sG_no(N d nx:Nat)(t:Nat→Tb):sG false N d nx t=true:=rfl
theorem sT_no(N d nx:Nat)(t:Nat→Tb):sT false N d nx t=t:=rfl
theorem sG_yes(N d nx:Nat)(t:Nat→Tb):sG true N d nx t=goods N d t (lst t nx):=by unfold sG;simp
theorem sT_yes(N d nx:Nat)(t:Nat→Tb):sT true N d nx t=tak (mvs N d t (lst t nx)) nx:=by unfold sT;simp
theorem sK_yes(N d nx:Nat)(t:Nat→Tb):sK true N d nx t=lkc N d t (lst t nx):=by unfold sK;simp
section
variable {a:String→Addr} {w0:World} {Y:Lay} {D n1 d:Nat} {dp:Int} {q:Nat} {tk:Bool} {t:Nat→Tb} {fp:List Nat} {w W W':World} {Bm:Nat} {m:Mt}
theorem Mov.lts{Q:Nat→Nat}{GT cT GU cU V nx dn:Nat}(h:Mov a w0 Y D Q n1 d dp GT cT GU cU V nx dn tk t W):∀b∈fpM Y D GT GU V,b<W.heap.size:=fun b hb=>by
 have hN:=h.pl.N;simp only [fpM,List.mem_cons] at hb
 rcases hb with rfl|rfl|rfl|rfl|hb
 ·exact World.block_lt_of_cell? _ _ (h.gt 0 (by omega))
 ·exact World.block_lt_of_cell? _ _ (h.gu 1 (Nat.le_refl _) (by omega))
 ·exact h.ev.lt
 ·obtain⟨sB,hr⟩:=h.row
  exact hr.lt
 ·exact h.re.lt b hb
theorem DAt.lts(h:DAt a w0 Y D n1 d dp q tk t fp W):∀b∈fp,b<W.heap.size:=by
 rcases h with⟨hq,h1,Q,GB,cB,GT,cT,h,rfl⟩|⟨hq,h1,Q,GT,cT,GU,cU,V,h,rfl⟩
 ·exact h.lts
 ·exact h.lts
theorem Pre.count{Q:Nat→Nat}{GB cB GT cT p dn:Nat}(h:Pre a w0 Y D Q n1 d dp GB cB GT cT p dn t W)(x:Nat):Pre a w0 Y D Q n1 d dp GB cB GT cT p x t (W.setCell ⟨D,1,none⟩ (.int .i64 (x:Nat))):=by
 have hp:Past [D] W (W.setCell ⟨D,1,none⟩ (.int .i64 (x:Nat))):=(Past.refl _ _).store (.inl (by simp)) _
 have nt:∀b∈Y.tall,b∉[D]:=fun b hb e=>by
  obtain rfl:b=D:=by simpa using e
  exact h.pl.nD hb
 refine⟨h.pl,h.row.set1 x,fun j h1 hj'=>hp.cell (h.gb j h1 hj') (by simpa using h.nGB.2.1),hp.cell h.gt (by simpa using h.nGT.2.1),h.re.past hp (fun b hb=>?_),fun j h1 hj'=>(h.bx j h1 hj').past hp (by simpa using h.pl.qD j h1 hj'),fun j h1 hj'=>(h.tb j h1 hj').past hp (nt _ (h.pl.tin hj').1) (nt _ (h.pl.tin hj').2),h.nGB,h.nGT,h.tn,h.c1⟩;obtain rfl:b=D:=by simpa using hb
 exact⟨h.pl.hD,fun e=>h.pl.nD (cut_tall h.pl.N e)⟩
theorem Mov.count{Q:Nat→Nat}{GT cT GU cU V nx dn:Nat}(h:Mov a w0 Y D Q n1 d dp GT cT GU cU V nx dn tk t W)(x:Nat):Mov a w0 Y D Q n1 d dp GT cT GU cU V nx x tk t (W.setCell ⟨D,1,none⟩ (.int .i64 (x:Nat))):=by
 have hp:Past [D] W (W.setCell ⟨D,1,none⟩ (.int .i64 (x:Nat))):=(Past.refl _ _).store (.inl (by simp)) _;obtain⟨sB,hr⟩:=h.row;refine⟨h.pl,⟨sB,hr.set1 x⟩,fun j hj=>hp.cell (h.gt j hj) (by simpa using h.nGT.2.1),fun j h1 hj=>hp.cell (h.gu j h1 hj) (by simpa using h.nGU.2.1),h.re.past hp (fun b hb=>?_),h.ev.past hp (by simpa using h.nV.2),h.hV,h.nV,h.nGT,h.nGU⟩;obtain rfl:b=D:=by simpa using hb
 exact⟨h.pl.hD,h.pl.nD⟩
theorem Mov.moved{Q:Nat→Nat}{GT cT GU cU V nx dn:Nat}{t':Nat→Tb}(h:Mov a w0 Y D Q n1 d dp GT cT GU cU V nx dn tk t W)(hp:Past (V::Bm::Y.tall) W W')(hB:Bm∉fpM Y D GT GU V)(hr:Real a w0 Y t' W')(he:EvAt V Y d (nx+1) W'):Mov a w0 Y D Q n1 d dp GT cT GU cU V (nx+1) dn tk t' W':=by
 have no:∀x,x∈fpM Y D GT GU V→x∉Y.tall→x≠V→x∉V::Bm::Y.tall:=fun x hx ht hv e=>by
  simp only [List.mem_cons] at e
  rcases e with e|e|e
  ·exact hv e
  ·exact hB (e ▸ hx)
  ·exact ht e
 obtain⟨sB,hrow⟩:=h.row;exact⟨h.pl,⟨sB,hrow.past hp (no D (by simp [fpM]) h.pl.nD (Ne.symm h.nV.2))⟩,fun j hj=>hp.cell (h.gt j hj) (no GT (by simp [fpM]) h.nGT.1 h.nGT.2.2),fun j h1 hj=>hp.cell (h.gu j h1 hj) (no GU (by simp [fpM]) h.nGU.1 h.nGU.2.2),hr,he,h.hV,h.nV,h.nGT,h.nGU⟩
set_option maxRecDepth 20000 in
theorem DAt.step_off(h:DAt a w0 Y D n1 d dp q tk t fp w)(hq:q=Y.n 0+(Y.N-1)*n1)(v:Option Addr) :
  Calls Tryz.prog 75 #[.pointer (some ⟨D,0,none⟩),.pointer v] w fun e w'=>e=.returned (.bool false)∧Below w.heap.size w w':=by
 have cL:=h.left;rw [hq,Nat.sub_self] at cL;clear h hq
 go_enter Tryz.func75,Tryz.ntmps75
 go_wp2_with (go_at_call 81;refine cL.mono ?_;rintro e w1 ⟨rfl,hb1⟩)
 go_ret
 exact⟨rfl,hb1⟩
set_option maxRecDepth 20000 in
set_option maxHeartbeats 1000000 in
theorem DAt.step_on(h:DAt a w0 Y D n1 d dp q tk t fp w)(hq:q<Y.n 0+(Y.N-1)*n1)(hm:MAt Bm 0 m w)(hok:m.Ok)(hu:m.unitE 1=0)(hB0:w0.heap.size≤Bm)(hB:Bm∉fp) :
  Calls Tryz.prog 75 #[.pointer (some ⟨D,0,none⟩),.pointer (some ⟨Bm,0,none⟩)] w fun e w' =>
   (sG (rdy Y n1 q) Y.N d (q-(Y.N-1)*n1) t=true∧e=.returned (.bool true)∧∃fp',DAt a w0 Y D n1 d dp (q+1) tk (sT (rdy Y n1 q) Y.N d (q-(Y.N-1)*n1) t) fp' w'∧MAt Bm 0 (msee ((m.unit 1).visits 1) (sK (rdy Y n1 q) Y.N d (q-(Y.N-1)*n1) t)) w'∧Past (Bm::fp) w w'∧∀b∈fp',b∈fp∨w.heap.size≤b) ∨
   (sG (rdy Y n1 q) Y.N d (q - (Y.N - 1) * n1) t = false ∧ e = .panicked (thrown (raisedV (a "ambler/api.ErrBroken"))) ∧ Past (Bm :: fp) w w' ∧ ∃ t', Real a w0 Y t' w') := by
 have cL:=h.left;have hs:=h.small;have d1:(((Y.n 0+(Y.N-1)*n1-q:Nat):Int)==0)=false:=beq_eq_false_iff_ne.2 (by omega);have d2:((Y.n 0+(Y.N-1)*n1-q:Nat)==0)=false:=beq_eq_false_iff_ne.2 (by omega);have hlt:=h.lts;have ew:IntKind.i64.wrap ((q:Int)+1)=((q+1:Nat):Int):=by rw [IntWalk.i64_in _ (by omega)];omega
 rcases h with⟨hq1,rfl,Q,GB,cB,GT,cT,h,rfl⟩|⟨hq1,_,Q,GT,cT,GU,cU,V,h,rfl⟩
 ·have e0:=rdy_no hq1
  rw [e0];have cR:=fun W (hb:Below w.heap.size w W)=>ready_any (h.read hb).row
  have cP:=fun W (hb:Below w.heap.size w W)=>prepare_any a w0 W Y D Q n1 d dp GB cB GT cT q q Bm m t (Y.N-1) (by have:=h.pl.N;omega) hq1 (h.read hb) (hm.below hb) hok hu hB0 hB
  have HH:=Lib.hid h;have nD:=h.pl.nD;clear h hm;generalize Y.n 0+(Y.N-1)*n1-q=lf at *
  go_enter Tryz.func75,Tryz.ntmps75
  go_wp2_with (first
   | (go_at_call 81;refine cL.mono ?_;rintro e w1 ⟨rfl,hb1⟩)
   | (go_at_call 120;refine (cR _ hb1).mono ?_;rintro e w2 ⟨rfl,rfl⟩))
  refine (cP _ hb1).mono ?_;rintro e w3 ⟨rfl,hm3,hp3,hs3⟩;clear cP cR cL d1 d2;have hz1:=hb1.size;have hpw:=(Past.of (d:=wrP Y D Q Bm) hb1).trans hp3
  have nB:Bm∉[D]:=fun e=>hB (by
   obtain rfl:Bm=D:=by simpa using e
   simp [fpP])
  have hin:∀b∈wrP Y D Q Bm,b∈Bm::fpP Y D Q GB GT:=fun b hb=>by
   simp only [wrP,List.mem_cons] at hb;simp only [fpP,List.mem_cons]
   rcases hb with e|e|e|e|e
   ·exact .inl e
   ·exact .inr (.inr (.inr (.inl e)))
   ·exact .inr (.inr (.inr (.inr (.inl e))))
   ·exact .inr (.inr (.inr (.inr (.inr (.inl e)))))
   ·exact .inr (.inr (.inr (.inr (.inr (.inr e)))))
  rcases hs3 with⟨hq2,hP⟩|⟨hq2,V,GT',cT',GU,cU,hM,v1,v2,v3⟩
  ·have hpre:=hP.count (q+1)
   have c1:=hP.row.c1;have cf:=hP.row.fz;have hp4:Past [D] w3 (w3.setCell ⟨D,1,none⟩ (.int .i64 ((q+1:Nat):Int))):=(Past.refl _ _).store (.inl (by simp)) _;have HF:=Lib.hid (show Pre a w0 Y D Q n1 d dp GB cB GT cT (q+1) (q+1) t _∧MAt Bm 0 ((m.unit 1).visits 1) _∧Past (Bm::fpP Y D Q GB GT) w (w3.setCell ⟨D,1,none⟩ (.int .i64 ((q+1:Nat):Int))) from⟨hpre,hm3.past hp4 nB,(hpw.mono hin).trans (hp4.mono (by simp [fpP]))⟩);clear hP hpre hm3 hpw hp3 hp4;go_wp2
   go_ret
   exact .inl ⟨rfl,rfl,_,.inl ⟨hq2,rfl,Q,GB,cB,GT,cT,HF.out.1,rfl⟩,HF.out.2.1,HF.out.2.2,fun b hb=>.inl hb⟩
  ·obtain⟨sB,hr⟩:=hM.row
   have hmov:=hM.count (q+1);have c1:=hr.c1;have cf:=hr.fz;have hp4:Past [D] w3 (w3.setCell ⟨D,1,none⟩ (.int .i64 ((q+1:Nat):Int))):=(Past.refl _ _).store (.inl (by simp)) _;have HF:=Lib.hid (show Mov a w0 Y D Q n1 d dp GT' cT' GU cU V 0 (q+1) false t _∧MAt Bm 0 ((m.unit 1).visits 1) _∧Past (Bm::fpP Y D Q GB GT) w (w3.setCell ⟨D,1,none⟩ (.int .i64 ((q+1:Nat):Int))) from⟨hmov,hm3.past hp4 nB,(hpw.mono hin).trans (hp4.mono (by simp [fpP]))⟩);have HQ:=Lib.hid hq2;clear hM hmov hm3 hpw hp3 hp4 hr hq2;go_wp2
   go_ret
   refine .inl ⟨rfl,rfl,_,.inr ⟨by have:=HQ.out;omega,by have:=HQ.out;omega,Q,GT',cT',GU,cU,V, ?_,rfl⟩,HF.out.2.1,HF.out.2.2,fun b hb=>?_⟩
   ·rw [show q+1-(Y.N-1)*n1=0 by have:=HQ.out;omega];exact HF.out.1
   ·simp only [fpM,List.mem_cons] at hb
    rcases hb with rfl|rfl|rfl|rfl|hb
    ·exact .inr (by omega)
    ·exact .inr (by omega)
    ·exact .inr (by omega)
    ·exact .inl (by simp [fpP])
    ·exact .inl (by simp only [fpP,List.mem_cons];exact .inr (.inr (.inr (.inr (.inr hb)))))
 ·have e0:=rdy_yes hq1
  rw [e0];obtain⟨sB,hr0⟩:=h.row;have cR:=fun W (hb:Below w.heap.size w W)=>ready_any (hr0.keep hb)
  have nB:Bm∉Y.tall:=fun e=>hB (by simp only [fpM,List.mem_cons];exact .inr (.inr (.inr (.inr e))))
  have nBV:V∉Bm::Y.tall:=fun e=>by
   rcases List.mem_cons.1 e with e|e
   ·exact hB (by subst e;simp [fpM])
   ·exact h.nV.1 e
  have hnx:q-(Y.N-1)*n1<Y.n 0:=by omega
  have cS:=fun W (hb:Below w.heap.size w W)=>evac.step_on V a w0 Y t h.pl.N d (q-(Y.N-1)*n1) Bm m h.pl.ld hnx hok hu W (h.read hb).ev (h.read hb).re (hm.below hb) hB0 nB h.hV nBV
  have HH:=Lib.hid h;have c5:=fun W (hb:Below w.heap.size w W)=>(hr0.keep hb).c5
  clear hm hr0 h;generalize hnxe:q-(Y.N-1)*n1=nx at *
  generalize hlf:Y.n 0+(Y.N-1)*n1-q=lf at *
  go_enter Tryz.func75,Tryz.ntmps75
  go_wp2_with (first
   | (go_at_call 81;refine cL.mono ?_;rintro e w1 ⟨rfl,hb1⟩;have c5:=c5 _ hb1)
   | (go_at_call 120;refine (cR _ hb1).mono ?_;rintro e w2 ⟨rfl,rfl⟩))
  refine (cS _ hb1).mono ?_
  have hin:∀b∈V::Bm::Y.tall,b∈Bm::fpM Y D GT GU V:=fun b hb=>by
   simp only [List.mem_cons] at hb;simp only [fpM,List.mem_cons]
   rcases hb with e|e|e
   ·exact .inr (.inr (.inr (.inl e)))
   ·exact .inl e
   ·exact .inr (.inr (.inr (.inr (.inr e))))
  rintro e w3 (⟨hg,rfl,hr3,hE3,hm3,hp3⟩|⟨hg,rfl,hp3,hx⟩)
  ·have hM:=((HH.out.read hb1).moved hp3 hB hr3 hE3)
   obtain⟨sB',hr⟩:=hM.row;have hmov:=hM.count (q+1);have c1:=hr.c1;have cf:=hr.fz;have hp4:Past [D] w3 (w3.setCell ⟨D,1,none⟩ (.int .i64 ((q+1:Nat):Int))):=(Past.refl _ _).store (.inl (by simp)) _
   have nBD:Bm∉[D]:=fun e=>hB (by
    obtain rfl:Bm=D:=by simpa using e
    simp [fpM])
   have hpw:=(Past.of (d:=Bm::fpM Y D GT GU V) hb1).trans (hp3.mono hin);have HF:=Lib.hid (show Mov a w0 Y D Q n1 d dp GT cT GU cU V (nx+1) (q+1) tk (tak (mvs Y.N d t (lst t nx)) nx) _∧MAt Bm 0 (msee ((m.unit 1).visits 1) (lkc Y.N d t (lst t nx))) _∧Past (Bm::fpM Y D GT GU V) w (w3.setCell ⟨D,1,none⟩ (.int .i64 ((q+1:Nat):Int))) from⟨hmov,hm3.past hp4 nBD,hpw.trans (hp4.mono (by simp [fpM]))⟩);clear hM hmov hm3 hpw hp3 hp4 hr hr3 hE3 cS cR cL d1 d2 c5;go_wp2
   go_ret
   refine .inl ⟨by unfold sG;rw [hg];rfl,rfl,_,.inr ⟨by omega,by omega,Q,GT,cT,GU,cU,V, ?_,rfl⟩,HF.out.2.1,HF.out.2.2,fun b hb=>.inl hb⟩;rw [show q+1-(Y.N-1)*n1=nx+1 by omega];exact HF.out.1
  ·have HP:=Lib.hid ((Past.of (d:=Bm::fpM Y D GT GU V) hb1).trans (hp3.mono hin))
   exact⟨rfl,.inr ⟨by unfold sG;rw [hg];rfl,rfl,HP.out,hx⟩⟩
end
theorem many_any(k:Int)(w:World):Calls Tryz.prog 118 #[.int .i64 k] w fun e w'=>e=.returned (.int .i64 (if k<0 then 1 else 2))∧w=w':=by
 by_cases h:k<0
 ·have d1:decide (k<0)=true:=decide_eq_true h
  rw [if_pos h];clear h
  go_enter Tryz.func118,Tryz.ntmps118
  go_wp2
  go_ret
  exact⟨rfl,rfl⟩
 ·have d1:decide (k<0)=false:=decide_eq_false h
  rw [if_neg h];clear h
  go_enter Tryz.func118,Tryz.ntmps118
  go_wp2
  go_ret
  exact⟨rfl,rfl⟩
theorem infoBld:(Tryz.prog.info? 198).map (fun i=>(i.zero,i.size,i.bytes))=some (some (.pointer none),1,8):=by kernel_rfl
def bldV(Q:Nat→Nat)(j:Nat):List Value:=(List.range j).map fun i=>.pointer (some ⟨Q (i+1),0,none⟩)
theorem bldV_up(Q:Nat→Nat)(j x:Nat):bldV (up Q (j+1) x) (j+1)=bldV Q j++[.pointer (some ⟨x,0,none⟩)]:=by
 unfold bldV;rw [List.range_succ,List.map_append]
 congr 1
 ·refine List.map_congr_left fun i hi=>?_
  rw [up_ne _ _ (by have:=List.mem_range.1 hi;omega)]
 ·show [Value.pointer (some ⟨up Q (j+1) x (j+1),0,none⟩)]=_
  rw [up_same]
structure NwI(a:String→Addr)(w0 w:World)(Y:Lay)(D GT:Nat)(Q:Nat→Nat)(n1:Nat)(dp:Int)(t:Nat→Tb)(j:Nat)(vB:Value)(W:World):Prop where
 N:Y.N=j+1
 e1:∀i,1≤i→i<Y.N→Y.n i=n1
 row:DRow D (Y.n 0+j*n1) 0 dp vB (.slice (some ⟨GT,0,none⟩) 1 1) none (.slice none 0 0) W
 gt:W.cell? ⟨GT,0,none⟩=some (.pointer (some ⟨Y.T 0,0,none⟩))
 re:Real a w0 (cut Y false) t W
 bx:∀i,1≤i→i<Y.N→build.BBox (Q i) n1 0 (some ⟨Y.T i,0,none⟩) W
 tb:∀i,1≤i→i<Y.N→PAt (Y.T i) (Y.B i) n1 0 W
 own:W.ownsRow w.heap.size 198 1 vB j (bldV Q j)
 bel:Below w.heap.size w W
 hD:D=w.heap.size+1
 hGT:GT=w.heap.size
 new:∀i,1≤i→i<Y.N→∀b∈[Y.T i,Y.B i,Q i],w.heap.size+2≤b∧b<W.heap.size
 sep:∀i i',1≤i→i<i'→i'<Y.N→∀b∈[Y.T i,Y.B i,Q i],b∉[Y.T i',Y.B i',Q i']
 ins:∀i,1≤i→i<Y.N→Q i≠Y.T i∧Q i≠Y.B i
 oB:∀g,vB.ownBlock=some g→w.heap.size+2≤g∧∀i,1≤i→i<Y.N→g∉[Y.T i,Y.B i,Q i]
 old:Y.T 0<w.heap.size∧Y.B 0<w.heap.size
section
variable {a:String→Addr} {w0 w:World} {Y:Lay} {D GT:Nat} {Q:Nat→Nat} {n1:Nat} {dp:Int} {t:Nat→Tb} {j:Nat} {vB:Value} {W W':World}
theorem NwI.next{W1 W3 : World}{Q' g1 c1 : Nat}{o : Obj}(h : NwI a w0 w Y D GT Q n1 dp t j vB W)(hbx : build.BBox Q' n1 0 (some ⟨W.heap.size+1, 0, none⟩) W1)(htb : PAt (W.heap.size+1) W.heap.size n1 0 W1)(hQ : W.heap.size+1<Q')(hb1 : Below W.heap.size W W1)
    (hr : W3.ownsRow w.heap.size 198 1 (.slice (some ⟨g1, 0, none⟩) (j+1) c1) (j+1) (bldV Q j++[.pointer (some ⟨Q', 0, none⟩)]))(hg : (W1.alloc o).grownBy W3 vB.ownBlock)(ha : vB.ownBlock=some g1∨g1=W1.heap.size+1) :
    NwI a w0 w (Y.add (W.heap.size+1) W.heap.size (Y.F 0) n1) D GT (up Q (j+1) Q') n1 dp t (j+1) (.slice (some ⟨g1, 0, none⟩) (j+1) c1) ((W3.setCell ⟨D, 3, none⟩ (.slice (some ⟨g1, 0, none⟩) (j+1) c1)).setCell ⟨D, 0, none⟩ (.int .i64 ((Y.n 0+(j+1)*n1 : Nat) : Int))) := by
  have hN := h.N;have z1 := hb1.size;have lQ := hbx.lt;have lD := h.row.lt;have lG := World.block_lt_of_cell? _ _ h.gt;have hD := h.hD;have hGT := h.hGT;have hold := h.old;have b2 := new_block W1 o;have hb2 := under.below_step hb1 b2;have sz2 : (W1.alloc o).heap.size=W1.heap.size+1 := World.size_alloc _ _
  have mt : ∀{o : Option Nat} {b : Nat}, b∈o.toList→o=some b := fun {o b} hb=>by cases o with
    | none=>cases hb
    | some x=>simp at hb;rw [hb]
  have p3 := past_grown hg;have z3 := p3.size;have hgo : ∀g, vB.ownBlock=some g→g<W.heap.size := fun g hg'=>(row_lt h.own hg').2
  have pD : Past [D] W3 ((W3.setCell ⟨D, 3, none⟩ (.slice (some ⟨g1, 0, none⟩) (j+1) c1)).setCell ⟨D, 0, none⟩ (.int .i64 ((Y.n 0+(j+1)*n1 : Nat) : Int))) := ((Past.refl [D] W3).store (.inl (by simp)) _).store (.inl (by simp)) _
  -- all that is written behind W but what is new: D, the builds' list
  have pa : Past (D::vB.ownBlock.toList) W ((W3.setCell ⟨D, 3, none⟩ (.slice (some ⟨g1, 0, none⟩) (j+1) c1)).setCell ⟨D, 0, none⟩ (.int .i64 ((Y.n 0+(j+1)*n1 : Nat) : Int))) := ((Past.of hb2).trans (p3.mono fun b hb=>List.mem_cons_of_mem _ hb)).trans (pD.mono fun b hb=>by
    obtain rfl : b=D := by simpa using hb
    exact List.mem_cons_self)
  have pn : Past (D::vB.ownBlock.toList) W1 ((W3.setCell ⟨D, 3, none⟩ (.slice (some ⟨g1, 0, none⟩) (j+1) c1)).setCell ⟨D, 0, none⟩ (.int .i64 ((Y.n 0+(j+1)*n1 : Nat) : Int))) := ((Past.of b2).trans (p3.mono fun b hb=>List.mem_cons_of_mem _ hb)).trans (pD.mono fun b hb=>by
    obtain rfl : b=D := by simpa using hb
    exact List.mem_cons_self)
  have zf := pn.size
  have nD : ∀b, b≠D→(∀g, vB.ownBlock=some g→b≠g)→b∉D::vB.ownBlock.toList := fun b h1 h2 e=>by
    rcases List.mem_cons.1 e with e|e
    · exact h1 e
    · exact h2 b (mt e) rfl
  have ob : ∀i, 1≤i→i<Y.N→∀b∈[Y.T i, Y.B i, Q i], b∉D::vB.ownBlock.toList := fun i h1 hi b hb=>nD b (by have := (h.new i h1 hi b hb).1;omega) (fun g hg' e=>(h.oB g hg').2 i h1 hi (e ▸ hb))
  have far : ∀b, W.heap.size≤b→b∉D::vB.ownBlock.toList := fun b hb=>nD b (by omega) (fun g hg' e=>by have := hgo g hg';omega)
  have cs : ∀i, i<(Y.add (W.heap.size+1) W.heap.size (Y.F 0) n1).N→i<Y.N∨i=j+1 := fun i hi=>by
    have : (Y.add (W.heap.size+1) W.heap.size (Y.F 0) n1).N=Y.N+1 := rfl;omega
  have eT : ∀i, i<Y.N→(Y.add (W.heap.size+1) W.heap.size (Y.F 0) n1).T i=Y.T i∧(Y.add (W.heap.size+1) W.heap.size (Y.F 0) n1).B i=Y.B i∧(Y.add (W.heap.size+1) W.heap.size (Y.F 0) n1).n i=Y.n i∧up Q (j+1) Q' i=Q i := fun i hi=>by
    have e : i≠Y.N := by omega
    exact⟨up_ne _ _ e, up_ne _ _ e, up_ne _ _ e, up_ne _ _ (by omega)⟩
  have eN : (Y.add (W.heap.size+1) W.heap.size (Y.F 0) n1).T (j+1)=W.heap.size+1∧(Y.add (W.heap.size+1) W.heap.size (Y.F 0) n1).B (j+1)=W.heap.size∧(Y.add (W.heap.size+1) W.heap.size (Y.F 0) n1).n (j+1)=n1∧up Q (j+1) Q' (j+1)=Q' := by
    have : j+1=Y.N := hN.symm;rw [this];exact⟨up_same _ _ _, up_same _ _ _, up_same _ _ _, up_same _ _ _⟩
  have e0 := eT 0 (by omega);have gr : DRow D (Y.n 0+j*n1) 0 dp vB (.slice (some ⟨GT, 0, none⟩) 1 1) none (.slice none 0 0) W3 := (h.row.keep hb2).past p3 (fun e=>by have := (h.oB D (mt e)).1;omega);have hrow := (gr.set3 (.slice (some ⟨g1, 0, none⟩) (j+1) c1)).set0 (Y.n 0+(j+1)*n1);refine⟨by show Y.N+1=_;omega, fun i h1 hi=>?_, by rw [e0.2.2.1];exact hrow, by rw [e0.1];exact pa.cell h.gt (nD GT (by omega) (fun g hg' e=>by have := (h.oB g hg').1;omega)), ?_, fun i h1 hi=>?_, fun i h1 hi=>?_, ?_, h.bel.trans (pa.below h.bel.size fun b hb=>?_), hD, hGT, fun i h1 hi b hb=>?_, fun i i' h1 h2 h3 b hb=>?_, fun i h1 hi=>?_, fun g hg'=>?_, by rw [e0.1, e0.2.1];exact hold⟩
  · rcases cs i hi with hi|rfl
    · rw [(eT i hi).2.2.1];exact h.e1 i h1 hi
    · exact eN.2.2.1
  · have r := h.re.past pa fun b hb=>⟨?_, fun e=>?_⟩
    · refine⟨fun i hi=>?_, fun i hi=>?_, fun i hi=>?_, fun i k hi hk hne=>?_, fun b hb=>?_, r.bel, r.base⟩
      · obtain rfl : i=0 := by have : i<1 := hi;omega
        show TAt ((Y.add (W.heap.size+1) W.heap.size (Y.F 0) n1).T 0) ((Y.add (W.heap.size+1) W.heap.size (Y.F 0) n1).B 0) _ _;rw [e0.1, e0.2.1];exact r.at' 0 Nat.one_pos
      · obtain rfl : i=0 := by have : i<1 := hi;omega
        exact r.ok 0 Nat.one_pos
      · obtain rfl : i=0 := by have : i<1 := hi;omega
        show (t 0).n=(Y.add (W.heap.size+1) W.heap.size (Y.F 0) n1).n 0;rw [e0.2.2.1];exact r.tn 0 Nat.one_pos
      · have : i<1 := hi
        have : k<1 := hk;omega
      · refine r.new b ?_
        rcases cut_off hb with e|e
        · rw [e0.1] at e;subst e;exact Lay.tin (Y := cut Y false) Nat.one_pos (by simp [cut])
        · rw [e0.2.1] at e;subst e;exact Lay.tin (Y := cut Y false) Nat.one_pos (by simp [cut])
    · rcases List.mem_cons.1 hb with rfl|hb
      · have := h.re.bel.size
        have := h.re.new (Y.T 0) (Lay.tin (Y := cut Y false) Nat.one_pos (by simp [cut]));omega
      · have := (h.oB b (mt hb)).1
        have := h.re.new (Y.T 0) (Lay.tin (Y := cut Y false) Nat.one_pos (by simp [cut]));omega
    · have q : b=Y.T 0∨b=Y.B 0 := cut_off e
      rcases List.mem_cons.1 hb with rfl|hb
      · omega
      · have := (h.oB b (mt hb)).1
        omega
  · rcases cs i hi with hi|rfl
    · rw [(eT i hi).2.2.2, (eT i hi).1];exact (h.bx i h1 hi).past pa (ob i h1 hi _ (by simp))
    · rw [eN.1, eN.2.2.2];exact hbx.past pn (far _ (by omega))
  · rcases cs i hi with hi|rfl
    · rw [(eT i hi).1, (eT i hi).2.1];exact (h.tb i h1 hi).past pa (ob i h1 hi _ (by simp)) (ob i h1 hi _ (by simp))
    · rw [eN.1, eN.2.1];exact htb.past pn (far _ (by omega)) (far _ (Nat.le_refl _))
  · rw [bldV_up]
    refine row_past2 hr pD fun g hg' e=>?_
    obtain rfl : g1=g := by injection hg'
    obtain rfl : g1=D := by simpa using e
    rcases ha with ha|ha
    · have := (h.oB _ ha).1;omega
    · omega
  · rcases List.mem_cons.1 hb with rfl|hb
    · omega
    · have := (h.oB b (mt hb)).1;omega
  · rcases cs i hi with hi|rfl
    · rw [(eT i hi).1, (eT i hi).2.1, (eT i hi).2.2.2] at hb
      have := h.new i h1 hi b hb;omega
    · rw [eN.1, eN.2.1, eN.2.2.2] at hb
      have hz := h.bel.size;simp only [List.mem_cons, List.not_mem_nil, or_false] at hb
      rcases hb with rfl|rfl|rfl <;> omega
  · have h3' : i'<Y.N∨i'=j+1 := cs i' h3
    have hi : i<Y.N := by rcases h3' with h|h <;> omega
    rw [(eT i hi).1, (eT i hi).2.1, (eT i hi).2.2.2] at hb
    rcases h3' with h3|rfl
    · rw [(eT i' h3).1, (eT i' h3).2.1, (eT i' h3).2.2.2]
      exact h.sep i i' h1 h2 h3 b hb
    · rw [eN.1, eN.2.1, eN.2.2.2]
      have := (h.new i h1 hi b hb).2;intro e;simp only [List.mem_cons, List.not_mem_nil, or_false] at e
      rcases e with e|e|e <;> omega
  · rcases cs i hi with hi|rfl
    · rw [(eT i hi).1, (eT i hi).2.1, (eT i hi).2.2.2];exact h.ins i h1 hi
    · rw [eN.1, eN.2.1, eN.2.2.2];omega
  · obtain rfl : g1=g := by injection hg'
    refine⟨?_, fun i h1 hi e=>?_⟩
    · rcases ha with ha|ha
      · exact (h.oB _ ha).1
      · omega
    · rcases cs i hi with hi|rfl
      · rw [(eT i hi).1, (eT i hi).2.1, (eT i hi).2.2.2] at e
        rcases ha with ha|ha
        · exact (h.oB _ ha).2 i h1 hi e
        · have := (h.new i h1 hi _ e).2;omega
      · rw [eN.1, eN.2.1, eN.2.2.2] at e
        simp only [List.mem_cons, List.not_mem_nil, or_false] at e
        rcases ha with ha|ha
        · have := hgo _ ha
          omega
        · have : Q'<W1.heap.size := lQ
          omega
end
section
variable {a:String→Addr} {w0 w:World} {Y:Lay} {D GT:Nat} {Q:Nat→Nat} {n1 d:Nat} {dp:Int} {t:Nat→Tb} {j:Nat} {vB:Value} {W W':World}
theorem NwI.pre(h:NwI a w0 w Y D GT Q n1 dp t j vB W)(hN:Y.N=2∨Y.N=3)(o0:okN (Y.n 0))(o1:okN n1)(ld:d≤15)(hdp:Y.N=3→dp=d)(ht:∀j,1≤j→t j=Tb.new n1):∃GB cB,Pre a w0 Y D Q n1 d dp GB cB GT 1 0 0 t W∧w.heap.size+2≤GB:=by
 have hj:=h.N;obtain⟨GB,cB,rfl,_,_⟩:=h.own.form (by omega);have hg:=h.oB GB rfl;have hz:=h.re.bel.size;have hD:=h.hD;have hGT:=h.hGT;have hold:=h.old
 have hw:w0.heap.size≤w.heap.size:=by
  have:=h.re.new (Y.T 0) (Lay.tin (Y:=cut Y false) Nat.one_pos (by simp [cut]));omega
 have cases:∀b∈Y.tall,b<w.heap.size∧(b=Y.T 0∨b=Y.B 0)∨∃i,1≤i∧i<Y.N∧(b=Y.T i∨b=Y.B i):=fun b hb=>by
  obtain⟨i,hi,hb⟩:=List.mem_flatMap.1 hb;have hi:=List.mem_range.1 hi;have hb':b=Y.T i∨b=Y.B i:=by simpa using hb
  rcases Nat.eq_zero_or_pos i with rfl|h0
  ·left
   rcases hb' with rfl|rfl
   ·exact⟨hold.1,.inl rfl⟩
   ·exact⟨hold.2,.inr rfl⟩
  ·exact .inr ⟨i,h0,hi,hb'⟩
 have big:∀b∈Y.tall,b<w.heap.size∨w.heap.size+2≤b:=fun b hb=>by
  rcases cases b hb with⟨h1,_⟩|⟨i,h1,hi,rfl|rfl⟩
  ·exact .inl h1
  ·exact .inr (h.new i h1 hi _ (by simp)).1
  ·exact .inr (h.new i h1 hi _ (by simp)).1
 have nq:∀i,1≤i→i<Y.N→Q i∉Y.tall:=fun i h1 hi e=>by
  have hb:=(h.new i h1 hi (Q i) (by simp)).1
  rcases cases _ e with⟨h2,_⟩|⟨k,h2,hk,e⟩
  ·omega
  ·rcases Nat.lt_trichotomy i k with hlt|rfl|hgt
   ·exact h.sep i k h1 hlt hk (Q i) (by simp) (by rcases e with e|e <;> simp [e])
   ·rcases e with e|e
    ·exact (h.ins i h1 hi).1 e
    ·exact (h.ins i h1 hi).2 e
   ·rcases e with e|e
    ·exact h.sep k i h2 hgt hi (Y.T k) (by simp) (by simp [e])
    ·exact h.sep k i h2 hgt hi (Y.B k) (by simp) (by simp [e])
 refine⟨GB,cB,⟨⟨hN,h.e1,o0,o1,ld,hdp,by omega,fun i h1 hi=>?_,fun b hb=>?_,fun i k hi hk hne b hb e=>?_,fun e=>?_,nq,fun i h1 hi=>?_,fun i k h1 hi h2 hk hne e=>?_⟩, ?_,fun i h1 hi=>?_,h.gt,h.re,fun i h1 hi=>?_,fun i h1 hi=>?_,⟨fun e=>?_,by omega,fun i h1 hi e=>?_⟩,⟨fun e=>?_,by omega,fun i h1 hi=>?_⟩,ht,rfl⟩,hg.1⟩
 ·have:=(h.new i h1 hi (Q i) (by simp)).1
  omega
 ·rcases cases b hb with⟨_,rfl|rfl⟩|⟨i,h1,hi,rfl|rfl⟩
  ·exact h.re.new _ (Lay.tin (Y:=cut Y false) Nat.one_pos (by simp [cut]))
  ·exact h.re.new _ (Lay.tin (Y:=cut Y false) Nat.one_pos (by simp [cut]))
  ·have:=(h.new i h1 hi (Y.T i) (by simp)).1;omega
  ·have:=(h.new i h1 hi (Y.B i) (by simp)).1;omega
 ·have key:∀i k,i<k→k<Y.N→∀b∈[Y.T i,Y.B i],b∉[Y.T k,Y.B k]:=fun i k hlt hk b hb e=>by
   have hk':b∈[Y.T k,Y.B k,Q k]:=by simp only [List.mem_cons,List.not_mem_nil,or_false] at e ⊢;rcases e with e|e <;> simp [e]
   rcases Nat.eq_zero_or_pos i with rfl|h0
   ·have q1:=(h.new k (by omega) hk b hk').1
    have hb':b=Y.T 0∨b=Y.B 0:=by simpa using hb
    rcases hb' with rfl|rfl <;> omega
   ·exact h.sep i k h0 hlt hk b (by simp only [List.mem_cons,List.not_mem_nil,or_false] at hb ⊢;rcases hb with e|e <;> simp [e]) hk'
  rcases Nat.lt_or_gt_of_ne hne with hlt|hgt
  ·exact key i k hlt hk b hb e
  ·exact key k i hgt hi b e hb
 ·have:=big _ e;omega
 ·have:=(h.new i h1 hi (Q i) (by simp)).1
  omega
 ·rcases Nat.lt_or_gt_of_ne hne with hlt|hgt
  ·exact h.sep i k h1 hlt hk (Q i) (by simp) (by simp [e])
  ·exact h.sep k i h2 hgt hi (Q k) (by simp) (by simp [e])
 ·have:=h.row
  rw [show Y.N-1=j by omega];exact this
 ·have:=h.own.cells (g:=GB) rfl (i-1) (.pointer (some ⟨Q i,0,none⟩)) (by simp [bldV,show i-1<j by omega,show i-1+1=i by omega])
  rwa [add_at,Nat.zero_add] at this
 ·have:=h.bx i h1 hi
  rwa [show kk n1 0 i=0 by unfold kk;omega]
 ·have:=h.tb i h1 hi
  rwa [show kk n1 0 i=0 by unfold kk;omega]
 ·rcases cases _ e with⟨h2,_⟩|⟨k,h2,hk,e|e⟩
  ·omega
  ·exact hg.2 k h2 hk (by simp [e])
  ·exact hg.2 k h2 hk (by simp [e])
 ·exact hg.2 i h1 hi (by simp [e])
 ·have:=big _ e;omega
 ·have:=(h.new i h1 hi (Q i) (by simp)).1
  omega
theorem NwI.after{w1 w3:World}{T0 B0 n0 Q' g1 c1 x0 x1:Nat}(hx0:n0+j*n1=x0)(hx1:n0+(j+1)*n1=x1)(hW:NwI a w0 w Y D w.heap.size Q n1 dp t j vB W∧Y.T 0=T0∧Y.B 0=B0∧Y.n 0=n0)(hX:W.heap.size+1<Q'∧build.BBox Q' n1 0 (some ⟨W.heap.size+1,0,none⟩) w1∧PAt (W.heap.size+1) W.heap.size n1 0 w1∧Below W.heap.size W w1)
  (hrA:w3.ownsRow w.heap.size 198 1 (.slice (some ⟨g1,0,none⟩) (j+1) c1) (j+1) (bldV Q j++[.pointer (some ⟨Q',0,none⟩)]))(hgA:(w1.alloc (.cells #[.pointer (some ⟨Q',0,none⟩)] 198)).grownBy w3 vB.ownBlock)(haA:vB.ownBlock=some g1∨g1=w1.heap.size+1) :
  (∃Y' Q',NwI a w0 w Y' D w.heap.size Q' n1 dp t (j+1) (.slice (some ⟨g1,0,none⟩) (j+1) c1) ((w3.setCell ⟨D,3,none⟩ (.slice (some ⟨g1,0,none⟩) (j+1) c1)).setCell ⟨D,0,none⟩ (.int .i64 (x1:Nat)))∧Y'.T 0=T0∧Y'.B 0=B0∧Y'.n 0=n0)∧DRow D x0 0 dp vB (.slice (some ⟨w.heap.size,0,none⟩) 1 1) none (.slice none 0 0) w3:=by
 obtain⟨hW,hT0,hB0,hn0⟩:=hW;obtain⟨hQ,hbx,htb,hb1⟩:=hX;have hx:=hW.next hbx htb hQ hb1 hrA hgA haA;rw [hn0,hx1] at hx;have e:0≠Y.N:=by have:=hW.N;omega
 refine⟨⟨_,_,hx,(up_ne _ _ e).trans hT0,(up_ne _ _ e).trans hB0,(up_ne _ _ e).trans hn0⟩, ?_⟩;have q:=(hW.row.keep hb1).keep (new_block w1 (.cells #[.pointer (some ⟨Q',0,none⟩)] 198));rw [hn0,hx0] at q;refine q.past (past_grown hgA) fun e=>?_
 have : vB.ownBlock=some D:=by
  cases e2:vB.ownBlock with
  | none=>rw [e2] at e;cases e
  | some g=>rw [e2] at e;simp at e;rw [e]
 have:=(hW.oB D this).1;have:=hW.hD;omega
def lay1(T B n:Nat):Lay:=⟨1,fun _=>T,fun _=>B,fun _=>⟨0,0,0,fun _=>0⟩,fun _=>n⟩
theorem NwI.start{T0 B0 n0:Nat}(h:Real a w0 (lay1 T0 B0 n0) t w):NwI a w0 w (lay1 T0 B0 n0) (w.heap.size+1) w.heap.size Q n1 dp t 0 (.slice none 0 0) ((w.alloc (.cells #[.pointer (some ⟨T0,0,none⟩)] 86)).alloc (.cells #[.int .i64 (n0:Nat),.int .i64 0,.int .i64 dp,.slice none 0 0,.slice (some ⟨w.heap.size,0,none⟩) 1 1,.pointer none,.slice none 0 0] 197)):=by
 have b2:=two_new w (.cells #[.pointer (some ⟨T0,0,none⟩)] 86) (.cells #[.int .i64 (n0:Nat),.int .i64 0,.int .i64 dp,.slice none 0 0,.slice (some ⟨w.heap.size,0,none⟩) 1 1,.pointer none,.slice none 0 0] 197);have h0:=h.at' 0 Nat.one_pos;have hr:=h.read b2;have hrow:=World.alloc_heap_new (w.alloc (.cells #[.pointer (some ⟨T0,0,none⟩)] 86)) (.cells #[.int .i64 (n0:Nat),.int .i64 0,.int .i64 dp,.slice none 0 0,.slice (some ⟨w.heap.size,0,none⟩) 1 1,.pointer none,.slice none 0 0] 197);rw [World.size_alloc] at hrow;refine⟨rfl,fun i h1 hi=>absurd (show i<1 from hi) (by omega),⟨?_⟩,keepc (new_block _ _) (newc w _ _), ?_,fun i h1 hi=>absurd (show i<1 from hi) (by omega),fun i h1 hi=>absurd (show i<1 from hi) (by omega),World.ownsRow_nil _ _ _ _,b2,rfl,rfl,fun i h1 hi=>absurd (show i<1 from hi) (by omega),fun i i' h1 h2 h3=>absurd (show i'<1 from h3) (by omega),fun i h1 hi=>absurd (show i<1 from hi) (by omega),fun g hg=>(by cases hg),⟨h0.lt,h0.lb⟩⟩
 ·rw [hrow]
  simp [lay1]
 ·exact⟨hr.at',hr.ok,hr.tn,hr.sep,hr.new,hr.bel,hr.base⟩
end
set_option maxRecDepth 20000 in
set_option maxHeartbeats 1000000 in
theorem new_yes(a:String→Addr)(w0 w:World)(T0 B0 n0 n1 d nb:Nat)(dp:Int)(t:Nat→Tb)(hr:Real a w0 (lay1 T0 B0 n0) t w)(o0:okN n0)(o1:okN n1)(ld:d≤15)(hd:dp≤15)(hnb:(dp<0∧nb=1)∨(dp=d∧nb=2))(ht:∀j,1≤j→t j=Tb.new n1) :
  Calls Tryz.prog 65 #[.pointer (some ⟨T0,0,none⟩),.int .i64 (n1:Nat),.int .i64 dp] w fun e w'=>∃(Y:Lay) (D:Nat) (fp:List Nat),e=.returned (.tuple #[.pointer (some ⟨D,0,none⟩),.nilIface])∧Y.N=nb+1∧Y.T 0=T0∧Y.B 0=B0∧Y.n 0=n0∧DAt a w0 Y D n1 d dp 0 false t fp w'∧Below w.heap.size w w'∧(∀b∈fp,b=T0∨b=B0∨w.heap.size≤b)∧D=w.heap.size+1:=by
 have hs:=tab_some;obtain⟨i0,hi0,hq0,hq1,hq2⟩:=info_parts infoBld;have d1:decide (15<dp)=false:=decide_eq_false (by omega);have hT:TAt T0 B0 (t 0) w:=hr.at' 0 Nat.one_pos;have hn:(t 0).n=n0:=hr.tn 0 Nat.one_pos;have cG:=table.groups_any T0 B0 (t 0) w hT;rw [hn] at cG;have cM:=many_any dp
 have em:(if dp<0 then (1:Int) else 2)=(nb:Int):=by
  rcases hnb with⟨h1,rfl⟩|⟨h1,rfl⟩
  ·rw [if_pos h1];rfl
  ·rw [if_neg (by omega)];rfl
 rw [em] at cM;have hnb2:1≤nb∧nb≤2:=by omega
 have HI:=Lib.hid (NwI.start (Q:=fun _=>0) (n1:=n1) (dp:=dp) hr);have hn64:=okN_le o1;have hn0:=okN_le o0;have HRD:=Lib.hid hr;clear hT hn hr em
 go_enter Tryz.func65,Tryz.ntmps65
 go_wp2_with (first
  | (go_at_call 63;refine cG.mono ?_;rintro e w1 ⟨rfl,rfl⟩)
  | (go_at_call 118;refine (cM _).mono ?_;rintro e w2 ⟨rfl,rfl⟩))
 generalize (w.alloc (.cells #[.pointer (some ⟨T0,0,none⟩)] 86)).alloc (.cells #[.int .i64 (n0:Nat),.int .i64 0,.int .i64 dp,.slice none 0 0,.slice (some ⟨w.heap.size,0,none⟩) 1 1,.pointer none,.slice none 0 0] 197)=W0 at *
 generalize hDD:w.heap.size+1=D at *
 go_loopw [26] (fun i wr=>∃j:Nat,j≤nb∧i=.int .i64 j∧Hid (∃Y Q vB,NwI a w0 w Y D w.heap.size Q n1 dp t j vB wr∧Y.T 0=T0∧Y.B 0=B0∧Y.n 0=n0)) (fun i _=>nb-(intOf i).toNat)
 case atStart=>exact⟨0,by omega,rfl,Lib.hid ⟨_,_,_,HI.out,rfl,rfl,rfl⟩⟩
 case round =>
  obtain⟨j,hj,rfl,HR⟩:=hrel;clear HI cM cG
  rcases Nat.lt_or_ge j nb with hjl|hjl
  ·have hji:(j:Int)<(nb:Int):=by omega
   obtain⟨Y,Q,vB,hW,hT0,hB0,hn00⟩:=HR.out;have cB:=build.new_yes n1 o1 wr
   have hmul:j*n1≤64*2:=by
    have : j*n1≤2*64:=Nat.mul_le_mul (by omega) hn64;omega
   have ew:IntKind.i64.wrap (((n0+j*n1:Nat):Int)+(n1:Int))=((n0+(j+1)*n1:Nat):Int):=by
    rw [IntWalk.i64_in _ (by omega),Nat.add_mul,Nat.one_mul];omega
   obtain⟨x0,hx0⟩:∃x0,n0+j*n1=x0:=⟨_,rfl⟩;obtain⟨x1,hx1⟩:∃x1,n0+(j+1)*n1=x1:=⟨_,rfl⟩;rw [hx0,hx1] at ew;have HX0:=Lib.hid hx0;have HX1:=Lib.hid hx1;clear hx0 hx1;have HW:=Lib.hid (And.intro hW (And.intro hT0 (And.intro hB0 hn00)));clear hW hT0 hB0 hn00 HR;have hzw:w.heap.size≤wr.heap.size:=HW.out.1.bel.size
   go_wp2_with (first
    | (go_at_call 119;refine cB.mono ?_;rintro e w1 ⟨Q',rfl,hQ,hbx,htb,hb1⟩;have hr1:=HW.out.1.row.keep hb1;rw [HW.out.2.2.2,HX0.out] at hr1;have k3:=hr1.c3;have kf:=hr1.fz;have hz1:=hb1.size;have HX:=Lib.hid (And.intro hQ (And.intro hbx (And.intro htb hb1)));clear hr1 hQ hbx htb hb1)
    | (at_builtin;refine wpList_append_lies _ rfl _ _ 194 rfl w.heap.size 198 i0 (.pointer none) 1 8 Tryz.underlying194 hi0 hq0 hq1 hq2 rfl (by decide) _ _ _ rfl (row_below (row_below HW.out.1.own HX.out.2.2.2) (new_block _ _)) ⟨w1.heap.size,0,none⟩ 1 1 [.pointer (some ⟨Q',0,none⟩)] rfl rfl (cell_one_new w1 _ _) (by simp [Value.oneCell']) (by decide) (by simp only [maxLen];omega) (by omega) (by simp;omega) (w1.heap.size+1) (by simp) ?_;intro g1 c1 w3 hrA hgA haA hlA;obtain⟨hy,hr3⟩:=NwI.after HX0.out HX1.out HW.out HX.out hrA hgA haA;have HY:=Lib.hid hy;have r3:=hr3.c3;have r0:=hr3.c0;have rf:=hr3.fz;clear hy hr3 hrA hgA haA hlA HX HW))
   go_roundw
   case rel =>
    obtain⟨Y',Q2,h1,h2,h3,h4⟩:=HY.out;exact⟨j+1,by omega,by simp,Lib.hid ⟨_,_,_,h1,h2,h3,h4⟩⟩
   case measure=>simp [intOf];omega
  ·obtain rfl:j=nb:=by omega
   obtain⟨Y,Q,vB,hW,hT0,hB0,hn00⟩:=HR.out;have hN:=hW.N;obtain⟨GB,cB,hP,hGB⟩:=hW.pre (by omega) (by rw [hn00];exact o0) o1 ld (fun e=>by rcases hnb with⟨_,h⟩|⟨h,_⟩;omega;exact h) ht;have HP:=Lib.hid (And.intro hP (And.intro hGB hW));clear hP hW HR;go_wp2
   go_ret2
   have h1:=okN_pos o1;refine⟨Y,D,_,rfl,hN,hT0,hB0,hn00,.inl ⟨?_,rfl,Q,GB,cB,w.heap.size,1,HP.out.1,rfl⟩,HP.out.2.2.bel,fun b hb=>?_,by omega⟩
   ·rw [hN,Nat.add_sub_cancel];exact Nat.mul_pos (by omega) h1
   ·simp only [fpP,List.mem_cons] at hb
    have q:=HP.out.2.2.new
    rcases hb with rfl|rfl|rfl|rfl|rfl|hb
    ·have:=HP.out.2.1;exact .inr (.inr (by omega))
    ·exact .inr (.inr (Nat.le_refl _))
    ·exact .inr (.inr (by omega))
    ·have:=(q 1 (Nat.le_refl _) (by omega) (Q 1) (by simp)).1;exact .inr (.inr (by omega))
    ·have:=(q (Y.N-1) (by omega) (by omega) (Q (Y.N-1)) (by simp)).1;exact .inr (.inr (by omega))
    ·obtain⟨i,hi,hb⟩:=List.mem_flatMap.1 hb
     have hi:=List.mem_range.1 hi;have hb':b=Y.T i∨b=Y.B i:=by simpa using hb
     rcases Nat.eq_zero_or_pos i with rfl|h0
     ·rcases hb' with rfl|rfl
      ·exact .inl hT0
      ·exact .inr (.inl hB0)
     ·rcases hb' with rfl|rfl
      ·have:=(q i h0 hi (Y.T i) (by simp)).1;exact .inr (.inr (by omega))
      ·have:=(q i h0 hi (Y.B i) (by simp)).1;exact .inr (.inr (by omega))
end dual
namespace dual
theorem lkc_most(N d:Nat)(hN:N=2∨N=3):∀(l:List Sl) (u:Nat→Tb),(∀i,i<N→(u i).n≤64)→lkc N d u l≤64*l.length
 | [],_,_=>Nat.le_refl _
 | e::l,u,h=>by
  have h1:=looks_le (u (tgt N d e.hash)) e.key e.hash;have h2:=h _ (tgt_lt hN d e.hash);have h3:=lkc_most N d hN l (mv1 N d u e) (fun i hi=>by rw [mv1_n];exact h i hi);show looks (u (tgt N d e.hash)) e.key e.hash+lkc N d (mv1 N d u e) l≤64*(l.length+1);omega
structure DM(a:String→Addr)(w1:World)(H:Nat→Nat)(la:Nat)(Y:Lay)(D n1 d:Nat)(dp:Int)(q c:Nat)(t:Nat→Tb)(F:Nat→Option Nat)(fp:List Nat)(W:World):Prop where
 da:DAt a w1 Y D n1 d dp q false t fp W
 du:∃M,Du H la Y.N d F t M c
 tn:rdy Y n1 q=false→∀j,1≤j→t j=Tb.new n1
 off:rdy Y n1 q=true→Off (t 0) (q-(Y.N-1)*n1)
section
variable {a:String→Addr} {w1:World} {H:Nat→Nat} {la:Nat} {Y:Lay} {D n1 d:Nat} {dp:Int} {q c:Nat} {t:Nat→Tb} {F:Nat→Option Nat} {fp:List Nat} {W W':World} {Bm p v k:Nat}
theorem fndK_le{key hs:Nat}(N d:Nat)(hN:N=2∨N=3)(hn:∀i,i<N→(t i).n≤64)(rd:Bool):fndK t key hs (js rd N d hs)≤128:=by
 have one:∀i,i<N→looks (t i) key hs≤64:=fun i hi=>by
  have:=looks_le (t i) key hs;have:=hn i hi;omega
 have a0:=one 0 (by omega);have a1:=one (tgt N d hs) (tgt_lt hN d hs)
 have step:∀i l,fndK t key hs (i::l)≤looks (t i) key hs+fndK t key hs l:=fun i l=>by
  show looks (t i) key hs+(if isThere (t i) key hs=true then 0 else fndK t key hs l)≤_
  split <;> omega
 have e0:fndK t key hs []=0:=rfl;have s0:=step 0 [];cases rd
 ·show fndK t key hs [0]≤128
  omega
 ·have s1:=step (tgt N d hs) [0]
  show fndK t key hs [tgt N d hs,0]≤128;omega
end
end dual
end Go.Proofs.YtdplhgpeggcmdaaGreatDoor
