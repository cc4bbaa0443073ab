/- ProbeSk: facts and laws for the walks. -/
import Derived.Test.YtdplhgpeggcmdaaGreatDoorTab
namespace Go.Proofs.YtdplhgpeggcmdaaGreatDoor
set_option linter.unusedSimpArgs false
set_option linter.unusedVariables false
namespace probe
open Go.ChangeShapes Go.WideShapes Go.ChangeAt Go.RowKit
theorem ret_int{k:IntKind}{a b:Int}(h:a=b):Ending.returned (.int k a)=.returned (.int k b):=by rw [h]
theorem right_yes(n:Nat)(h:okN n)(w:World) :
  Calls Tryz.prog 117 #[.int .i64 n] w fun e w'=>e=.returned (.bool true)∧w=w':=by
 have hp:=okN_pos h;have hl:=okN_le h;have ha:=(and_ok n (by omega) hp).2 h
 go_enter Tryz.func117,Tryz.ntmps117
 go_wp2
 all_goals (go_ret;exact⟨by simp_all,rfl⟩)
theorem right_no(g:Int)(h:¬∃n:Nat,g=n∧okN n)(w:World) :
  Calls Tryz.prog 117 #[.int .i64 g] w fun e w'=>e=.returned (.bool false)∧w=w':=by
 by_cases h0:0<g
 ·by_cases h1:g≤64
  ·obtain⟨n,rfl⟩:=Int.eq_ofNat_of_zero_le (show 0≤g by omega)
   have hx:¬bits .and .i64 (n:Int) ((n:Int)-1)=0:=fun e=>h ⟨n,rfl,(and_ok n (by omega) (by omega)).1 e⟩
   have hb:(bits .and .i64 (n:Int) ((n:Int)-1)==0)=false:=by rw [beq_eq_false_iff_ne];exact hx
   clear h hx
   go_enter Tryz.func117,Tryz.ntmps117
   go_wp2
   all_goals (go_ret;exact⟨by simp_all,rfl⟩)
  ·clear h
   go_enter Tryz.func117,Tryz.ntmps117
   go_wp2
   all_goals (go_ret;exact⟨by simp_all,rfl⟩)
 ·clear h
  go_enter Tryz.func117,Tryz.ntmps117
  go_wp2
  all_goals (go_ret;exact⟨by simp_all,rfl⟩)
theorem wrapu_nat(x:Nat):IntKind.u64.wrap (x:Int)=((x%18446744073709551616:Nat):Int):=by
 simp [IntKind.wrap,IntKind.signed,IntKind.bits]
theorem i64_nat(n:Nat)(h:n<9223372036854775808):wrap64 (n:Int)=(n:Int):=Go.IntWalk.wrap64_in _ (by omega)
theorem place_bits(h n i:Nat)(hok:okN n)(hi:i<n) :
  wrap64 ((IntKind.u64.wrap ((h:Int)+IntKind.u64.wrap (wrap64 ((wrap64 ((i:Int)*((i:Int)+1))).tdiv 2)))).tmod (n:Int))=((plc h n i:Nat):Int):=by
 have hp:=okN_pos hok;have hl:=okN_le hok;have hm:i*(i+1)≤63*64:=Nat.mul_le_mul (by omega) (by omega);have hlt:=plc_lt (h:=h) (i:=i) hp
 rw [show (i:Int)*((i:Int)+1)=((i*(i+1):Nat):Int) by simp,i64_nat _ (by omega),show (2:Int)=((2:Nat):Int) from rfl,←Int.ofNat_tdiv,i64_nat _ (by omega),wrapu_nat,
  ←Int.natCast_add,wrapu_nat,←Int.ofNat_tmod,Nat.mod_eq_of_lt (show i*(i+1)/2<18446744073709551616 by omega),plc_wrap hok,i64_nat _ (by omega)]
theorem place_any(h n i:Nat)(hok:okN n)(hi:i<n)(w:World) :
  Calls Tryz.prog 129 #[.int .u64 h,.int .i64 n,.int .i64 i] w fun e w'=>e=.returned (.int .i64 (plc h n i:Nat))∧w=w':=by
 have hp:=okN_pos hok;have hl:=okN_le hok;have hB:=Lib.hid (place_bits h n i hok hi)
 go_enter Tryz.func129,Tryz.ntmps129
 go_wp2
 go_ret
 exact⟨ret_int hB.out,rfl⟩
end probe
namespace probe
open Go.ChangeShapes Go.WideShapes Go.ChangeAt Go.RowKit Go.Shelf
attribute [local go_sem] Oper.semAt_some
theorem walk_any(h:Nat)(g:Int)(w:World) :
  Calls Tryz.prog 94 #[.int .u64 h,.int .i64 g] w fun e w'=>e=.returned (.func (.func 128) #[] #[.pointer (some ⟨w.heap.size+1,0,none⟩),.pointer (some ⟨w.heap.size,0,none⟩)])∧w'=(w.alloc (.cells #[.int .u64 h] 42)).alloc (.cells #[.int .i64 g] 3):=by
 go_enter Tryz.func94,Tryz.ntmps94
 go_wp2
 go_ret
 exact⟨rfl,rfl⟩
def wlj(h n j:Nat):List Nat:=(List.range j).map (plc h n)
theorem wlj_succ(h n j:Nat):wlj h n (j+1)=wlj h n j++[plc h n j]:=by simp [wlj,List.range_succ]
theorem wlj_length(h n j:Nat):(wlj h n j).length=j:=by simp [wlj]
theorem wlj_prefix(h n j:Nat)(hj:j≤n):wlj h n j <+: wl h n:=by
 unfold wlj wl;obtain⟨d,rfl⟩:=Nat.exists_eq_add_of_le hj;rw [List.range_add,List.map_append];exact⟨_,rfl⟩
def KeepB(Bg Bh:Nat)(W W':World):Prop:=W'.cell? ⟨Bg,0,none⟩=W.cell? ⟨Bg,0,none⟩∧W'.cell? ⟨Bh,0,none⟩=W.cell? ⟨Bh,0,none⟩
theorem keepB_t{Bg Bh:Nat}{A B C:World}(h:KeepB Bg Bh A B)(k:KeepB Bg Bh B C):KeepB Bg Bh A C:=⟨k.1.trans h.1,k.2.trans h.2⟩
theorem keepB_b{Bg Bh:Nat}{w:World}(hg:Bg<w.heap.size)(hh:Bh<w.heap.size)(W:World)(l:Nat)(o o':Obj)(hl:w.heap.size≤l)(_:W.heap[l]?=some o)(_:o.isCells=false)(_:o.isWalk=false):KeepB Bg Bh W (W.putObj l o'):=
 ⟨World.cell?_of_block (World.putObj_heap_other (by simp;omega)),World.cell?_of_block (World.putObj_heap_other (by simp;omega))⟩
def wljF(h n:Nat)(hn:0<n)(j:Nat):List (Fin n):=(List.range j).map fun i=>⟨plc h n i,plc_lt hn⟩
theorem wljF_succ(h n:Nat)(hn:0<n)(j:Nat):wljF h n hn (j+1)=wljF h n hn j++[⟨plc h n j,plc_lt hn⟩]:=by simp [wljF,List.range_succ]
theorem wljF_length(h n:Nat)(hn:0<n)(j:Nat):(wljF h n hn j).length=j:=by simp [wljF]
theorem wljF_val(h n:Nat)(hn:0<n)(j:Nat):(wljF h n hn j).map Fin.val=wlj h n j:=by simp [wljF,wlj,Function.comp_def]
set_option maxRecDepth 100000 in
set_option maxHeartbeats 1000000 in
theorem walk1_inF(n:Nat)(hn:1≤n)(l Bg Bh:Nat)(h k:Nat)(hok:okN k)(J Jx:List (Fin k)→World→Prop)
  (hY:∀ pre x W,J pre W → pre.length < k → YieldAt Fence.wide (n - 1) Tryz.prog l #[.int .i64 (x.val:Nat)] W fun e W' =>
   (e=.returned (.bool true)∧J (pre++[x]) W'∧KeepB Bg Bh W W')∨(e=.returned (.bool false)∧Jx (pre++[x]) W'))
  (W:World) (hBg:W.cell? ⟨Bg,0,none⟩=some (.int .i64 (k:Nat))) (hBh:W.cell? ⟨Bh,0,none⟩=some (.int .u64 h)) (h0:J [] W) :
  CallsIn Fence.wide n Tryz.prog 128 #[.func (.yield l) #[] #[],.pointer (some ⟨Bg,0,none⟩),.pointer (some ⟨Bh,0,none⟩)] W fun e W'=>(∃v,e=.returned v) ∧
   ((∃ys:List (Fin k),ys.map Fin.val=wl h k∧J ys W')∨(∃pre:List (Fin k),pre.map Fin.val <+: wl h k∧Jx pre W')):=by
 have hp:=okN_pos hok;have hl:=okN_le hok;refine callsIn_of_wp Tryz.func128 rfl trivial ?_ rfl;simp only [Tryz.ntmps128,List.size_toArray,List.length_cons,List.length_nil,Nat.reduceAdd,Nat.reduceSub,Array.replicate_succ,Array.replicate_zero,List.push_toArray,List.append_toArray,List.nil_append,List.cons_append]
 gi_wp2_with (refine⟨trivial, ?_⟩;gi_at_call 117;refine (callsIn_wide.2 (right_yes k hok _)).mono ?_;rintro e w' ⟨rfl,rfl⟩)
 gi_loopw [9] (fun v wr=>∃j:Nat,j≤k∧v=.int .i64 j∧wr.cell? ⟨Bg,0,none⟩=some (.int .i64 (k:Nat))∧wr.cell? ⟨Bh,0,none⟩=some (.int .u64 h)∧J (wljF h k hp j) wr)
  (fun v _=>k-(intOf v).toNat)
 case atStart=>exact⟨0,by omega,rfl,hBg,hBh,h0⟩
 case round =>
  obtain⟨j,hj,rfl,cg,ch,hJs⟩:=hrel
  by_cases hlt:j<k
  ·gi_wp2_with (refine⟨trivial, ?_⟩;gi_at_call 129;refine (callsIn_wide.2 (place_any h k j hok hlt _)).mono ?_;rintro e w' ⟨rfl,rfl⟩;obtain⟨fn,tmps,assign,body,hy,hR⟩:=hY (wljF h k hp j) ⟨plc h k j,plc_lt hp⟩ wr hJs (by rw [wljF_length];exact hlt))
   refine hR.mono ?_;rintro e W3 (⟨rfl,hJ3,hk3⟩|⟨rfl,hJx3⟩)
   ·have cg3:=hk3.1.trans cg
    have ch3:=hk3.2.trans ch;gi_wp2
    go_roundw
    case rel=>exact⟨j+1,by omega,by go_num,cg3,ch3,by rw [wljF_succ];exact hJ3⟩
    case measure=>simp [intOf];omega
   ·gi_wp2
    refine bodyPost_ret (results_none rfl _ _ _) rfl ?_;exact⟨⟨_,rfl⟩,.inr ⟨_,by rw [←wljF_succ,wljF_val];exact wlj_prefix h k (j+1) (by omega),hJx3⟩⟩
  ·obtain rfl:j=k:=by omega
   gi_wp2
   go_end0
   exact⟨⟨_,rfl⟩,.inl ⟨_,by rw [wljF_val];rfl,hJs⟩⟩
theorem walk_stopsF(n:Nat)(hn:1≤n)(Bg Bh:Nat)(h k:Nat)(hok:okN k)(w:World)(hBg:Bg<w.heap.size)(hBh:Bh<w.heap.size)
  (cg:w.cell? ⟨Bg,0,none⟩=some (.int .i64 (k:Nat)))(ch:w.cell? ⟨Bh,0,none⟩=some (.int .u64 h)) :
  SeqStopsK Fence.wide n Tryz.prog 128 #[.pointer (some ⟨Bg,0,none⟩),.pointer (some ⟨Bh,0,none⟩)] (fun x:Fin k=>#[Value.int .i64 (x.val:Nat)]) (KeepB Bg Bh) (fun ys=>ys.map Fin.val=wl h k) (fun pre=>pre.map Fin.val <+: wl h k) k w:=fun l J Jx W hW _ _ hY h0 =>
 walk1_inF n hn l Bg Bh h k hok J Jx hY W ((hW.cell (p:=⟨Bg,0,none⟩) hBg).trans cg) ((hW.cell (p:=⟨Bh,0,none⟩) hBh).trans ch) h0
end probe
namespace table
open Go.ChangeShapes Go.WideShapes Go.ChangeAt Go.RowKit Go.Shelf swar under trap meter group probe lens tail call
attribute [local go_sem] Oper.semAt_some stage.pureUpon move.stepUpon
theorem LnStep.belowD{d:List Nat}{L:Ln}{m:Mt}{w W W':World}{D:Nat}(h:LnStep d L m w W)(hb:Below D W W')(hD:w.heap.size≤D)(hd:∀b∈L.d,b<w.heap.size):LnStep d L m w W':=by
 have k:Past (d++L.d) w W':=⟨hb.os.trans h.past.os,hb.tape.trans h.past.tape,hb.output.trans h.past.output,Nat.le_trans h.past.size hb.size,fun j hj hn=>(hb.block j (by omega)).trans (h.past.block j hj hn)⟩;cases L with
 | nil=>exact⟨k,trivial,trivial⟩
 | pr B o=>exact⟨k,h.side.trans (Side.of_block (hb.block B (Nat.lt_of_lt_of_le (hd B (by simp [Ln.d])) hD))),MAt.of_block h.at' (hb.block B (Nat.lt_of_lt_of_le (hd B (by simp [Ln.d])) hD))⟩
 | vi B o=>exact⟨k,h.side.trans (Side.of_block (hb.block B (Nat.lt_of_lt_of_le (hd B (by simp [Ln.d])) hD))),MAt.of_block h.at' (hb.block B (Nat.lt_of_lt_of_le (hd B (by simp [Ln.d])) hD))⟩
theorem keeps_from{d:List Nat}{B:Nat}{W W':World}(h:Past d W W')(hd:∀b∈d,b<B):KeepsFrom B W W':=
 ⟨h.size,fun k o hB hk ho=>(h.block k (Array.getElem?_eq_some_iff.1 hk).1 fun e=>by have:=hd k e;omega).trans hk⟩
def lastA(B:Nat)(l:List Nat):Option Addr:=if l=[] then none else some ⟨B,lastOf l*25,none⟩
def roomA(t:Tb)(B:Nat)(l:List Nat):Option Addr:=if l=[] then none else some ⟨B,roomOf (free t) l*25,none⟩
theorem lastA_snoc(B:Nat)(l:List Nat)(x:Nat):lastA B (l++[x])=some ⟨B,x*25,none⟩:=by unfold lastA;rw [if_neg (by simp),lastOf_snoc]
theorem roomA_yes{t:Tb}{l:List Nat}(h:l.any (free t)=true)(B x:Nat):roomA t B (l++[x])=roomA t B l:=by
 have hl:l≠[]:=by intro e;rw [e] at h;cases h
 unfold roomA;rw [if_neg (by simp),if_neg hl,roomOf_snoc,if_pos h]
theorem roomA_no{t:Tb}{l:List Nat}(h:l.any (free t)=false)(B x:Nat):roomA t B (l++[x])=some ⟨B,x*25,none⟩:=by
 unfold roomA;rw [if_neg (by simp),roomOf_snoc,h];rfl
structure SK(T key h n:Nat)(L:Ln)(m:Mt)(w:World)(x k:Nat)(lp rp:Option Addr)(rm:Bool)(W:World):Prop where
 ln:LnStep [] L (L.see m k) w W
 ct:W.cell? ⟨x,0,none⟩=some (.pointer (some ⟨T,0,none⟩))
 cl:W.cell? ⟨x+1,0,none⟩=some (.pointer L.p)
 ck:W.cell? ⟨x+1+1,0,none⟩=some (.int .u64 (key:Nat))
 ch:W.cell? ⟨x+1+1+1,0,none⟩=some (.int .u64 (h:Nat))
 r0:W.cell? ⟨x+1+1+1+1,0,none⟩=some (.pointer none)
 r1:W.cell? ⟨x+1+1+1+1,1,none⟩=some (.int .u64 0)
 r2:W.cell? ⟨x+1+1+1+1,2,none⟩=some (.int .u64 0)
 r3:W.cell? ⟨x+1+1+1+1,3,none⟩=some (.pointer none)
 r4:W.cell? ⟨x+1+1+1+1,4,none⟩=some (.pointer none)
 rf:∀i,W.frozen? ⟨x+1+1+1+1,i,none⟩=false
 s0:W.cell? ⟨x+1+1+1+1+1,0,none⟩=some (.pointer (some ⟨T,0,none⟩))
 s1:W.cell? ⟨x+1+1+1+1+1,1,none⟩=some (.int .u64 (key:Nat))
 s2:W.cell? ⟨x+1+1+1+1+1,2,none⟩=some (.int .u64 (h:Nat))
 s3:W.cell? ⟨x+1+1+1+1+1,3,none⟩=some (.pointer lp)
 s4:W.cell? ⟨x+1+1+1+1+1,4,none⟩=some (.pointer rp)
 sf:∀i,W.frozen? ⟨x+1+1+1+1+1,i,none⟩=false
 rm:W.cell? ⟨x+1+1+1+1+1+1,0,none⟩=some (.bool rm)
 rmf:W.frozen? ⟨x+1+1+1+1+1+1,0,none⟩=false
 wh:W.cell? ⟨x+1+1+1+1+1+1+1,0,none⟩=some (.int .u64 ((h/128:Nat):Int))
 wg:W.cell? ⟨x+1+1+1+1+1+1+1+1,0,none⟩=some (.int .i64 (n:Nat))
section
variable {T key h n:Nat} {L:Ln} {m:Mt} {w:World} {x k:Nat} {lp rp:Option Addr} {rm:Bool} {W W':World}
theorem SK.lt(s:SK T key h n L m w x k lp rp rm W):x+9≤W.heap.size:=by have:=World.block_lt_of_cell? W _ s.wg;simp at this;omega
theorem SK.of_blocks(s:SK T key h n L m w x k lp rp rm W){k':Nat}(hl:LnStep [] L (L.see m k') w W')(hb:∀i,x≤i→i<x+9→W'.heap[i]?=W.heap[i]?):SK T key h n L m w x k' lp rp rm W':=by
 have c:∀{i j v},x≤i→i<x+9→W.cell? ⟨i,j,none⟩=some v→W'.cell? ⟨i,j,none⟩=some v:=fun h1 h2 hc=>(World.cell?_of_block (w:=W) (hb _ h1 h2)).trans hc
 have f:∀{i j},x≤i→i<x+9→W.frozen? ⟨i,j,none⟩=false→W'.frozen? ⟨i,j,none⟩=false:=fun h1 h2 hc=>(World.frozen?_of_block (w:=W) (hb _ h1 h2)).trans hc
 exact⟨hl,c (by omega) (by omega) s.ct,c (by omega) (by omega) s.cl,c (by omega) (by omega) s.ck,c (by omega) (by omega) s.ch,c (by omega) (by omega) s.r0,c (by omega) (by omega) s.r1,c (by omega) (by omega) s.r2,c (by omega) (by omega) s.r3,c (by omega) (by omega) s.r4,fun i=>f (by omega) (by omega) (s.rf i),c (by omega) (by omega) s.s0,c (by omega) (by omega) s.s1,c (by omega) (by omega) s.s2,c (by omega) (by omega) s.s3,c (by omega) (by omega) s.s4,fun i=>f (by omega) (by omega) (s.sf i),c (by omega) (by omega) s.rm,f (by omega) (by omega) s.rmf,c (by omega) (by omega) s.wh,c (by omega) (by omega) s.wg⟩
theorem SK.below(s:SK T key h n L m w x k lp rp rm W){D:Nat}(hb:Below D W W')(hx:w.heap.size≤x)(hD:x+9≤D)(hd:∀b∈L.d,b<w.heap.size):SK T key h n L m w x k lp rp rm W':=
 s.of_blocks (LnStep.belowD s.ln hb (by omega) hd) fun i _ h2=>hb.block i (by omega)
theorem SK.look(s:SK T key h n L m w x k lp rp rm W)(hx:w.heap.size≤x)(hd:∀b∈L.d,b<w.heap.size)(hs:LnStep [] L (L.one (L.see m k)) W W'):SK T key h n L m w x (k+1) lp rp rm W':=
 s.of_blocks (s.ln.trans hs) fun i h1 h2=>hs.past.block i (by have:=s.lt;omega) (by simp;intro e;have:=hd i e;omega)
theorem off_b{a b i j:Nat}(h:a≠b):(⟨a,i,none⟩:Addr)≠⟨b,j,none⟩:=by intro e;injection e with e _ _;exact h e
theorem SK.setLast(s:SK T key h n L m w x k lp rp rm W)(hx:w.heap.size≤x)(hd:∀b∈L.d,b<w.heap.size)(p:Option Addr):SK T key h n L m w x k p rp rm (W.setCell ⟨x+1+1+1+1+1,3,none⟩ (.pointer p)):=by
 have o:∀{b j v},b≠x+1+1+1+1+1→W.cell? ⟨b,j,none⟩=some v→(W.setCell ⟨x+1+1+1+1+1,3,none⟩ (.pointer p)).cell? ⟨b,j,none⟩=some v:=fun hb hc=>(World.cell?_setCell_other _ _ _ _ (off_b (Ne.symm hb))).trans hc
 have o':∀{j v},j≠3→W.cell? ⟨x+1+1+1+1+1,j,none⟩=some v→(W.setCell ⟨x+1+1+1+1+1,3,none⟩ (.pointer p)).cell? ⟨x+1+1+1+1+1,j,none⟩=some v:=fun hb hc=>(World.cell?_setCell_other _ _ _ _ (off_ne (Ne.symm hb))).trans hc
 exact⟨s.ln.newset hd (by simp;omega) _,o (by omega) s.ct,o (by omega) s.cl,o (by omega) s.ck,o (by omega) s.ch,o (by omega) s.r0,o (by omega) s.r1,o (by omega) s.r2,o (by omega) s.r3,o (by omega) s.r4,fun i=>by rw [World.frozen?_setCell];exact s.rf i,o' (by decide) s.s0,o' (by decide) s.s1,o' (by decide) s.s2,World.cell?_setCell_same' _ _ _ (by rw [s.s3];rfl),o' (by decide) s.s4,fun i=>by rw [World.frozen?_setCell];exact s.sf i,o (by omega) s.rm,by rw [World.frozen?_setCell];exact s.rmf,o (by omega) s.wh,o (by omega) s.wg⟩
theorem SK.setRoom(s:SK T key h n L m w x k lp rp rm W)(hx:w.heap.size≤x)(hd:∀b∈L.d,b<w.heap.size)(p:Option Addr):SK T key h n L m w x k lp p rm (W.setCell ⟨x+1+1+1+1+1,4,none⟩ (.pointer p)):=by
 have o:∀{b j v},b≠x+1+1+1+1+1→W.cell? ⟨b,j,none⟩=some v→(W.setCell ⟨x+1+1+1+1+1,4,none⟩ (.pointer p)).cell? ⟨b,j,none⟩=some v:=fun hb hc=>(World.cell?_setCell_other _ _ _ _ (off_b (Ne.symm hb))).trans hc
 have o':∀{j v},j≠4→W.cell? ⟨x+1+1+1+1+1,j,none⟩=some v→(W.setCell ⟨x+1+1+1+1+1,4,none⟩ (.pointer p)).cell? ⟨x+1+1+1+1+1,j,none⟩=some v:=fun hb hc=>(World.cell?_setCell_other _ _ _ _ (off_ne (Ne.symm hb))).trans hc
 exact⟨s.ln.newset hd (by simp;omega) _,o (by omega) s.ct,o (by omega) s.cl,o (by omega) s.ck,o (by omega) s.ch,o (by omega) s.r0,o (by omega) s.r1,o (by omega) s.r2,o (by omega) s.r3,o (by omega) s.r4,fun i=>by rw [World.frozen?_setCell];exact s.rf i,o' (by decide) s.s0,o' (by decide) s.s1,o' (by decide) s.s2,o' (by decide) s.s3,World.cell?_setCell_same' _ _ _ (by rw [s.s4];rfl),fun i=>by rw [World.frozen?_setCell];exact s.sf i,o (by omega) s.rm,by rw [World.frozen?_setCell];exact s.rmf,o (by omega) s.wh,o (by omega) s.wg⟩
theorem SK.setRm(s:SK T key h n L m w x k lp rp rm W)(hx:w.heap.size≤x)(hd:∀b∈L.d,b<w.heap.size)(b':Bool):SK T key h n L m w x k lp rp b' (W.setCell ⟨x+1+1+1+1+1+1,0,none⟩ (.bool b')):=by
 have o:∀{b j v},b≠x+1+1+1+1+1+1→W.cell? ⟨b,j,none⟩=some v→(W.setCell ⟨x+1+1+1+1+1+1,0,none⟩ (.bool b')).cell? ⟨b,j,none⟩=some v:=fun hb hc=>(World.cell?_setCell_other _ _ _ _ (off_b (Ne.symm hb))).trans hc
 exact⟨s.ln.newset hd (by simp;omega) _,o (by omega) s.ct,o (by omega) s.cl,o (by omega) s.ck,o (by omega) s.ch,o (by omega) s.r0,o (by omega) s.r1,o (by omega) s.r2,o (by omega) s.r3,o (by omega) s.r4,fun i=>by rw [World.frozen?_setCell];exact s.rf i,o (by omega) s.s0,o (by omega) s.s1,o (by omega) s.s2,o (by omega) s.s3,o (by omega) s.s4,fun i=>by rw [World.frozen?_setCell];exact s.sf i,World.cell?_setCell_same' _ _ _ (by rw [s.rm];rfl),by rw [World.frozen?_setCell];exact s.rmf,o (by omega) s.wh,o (by omega) s.wg⟩
theorem SK.keepB(s:SK T key h n L m w x k lp rp rm W){k':Nat}{lp' rp':Option Addr}{rm':Bool}(s':SK T key h n L m w x k' lp' rp' rm' W'):KeepB (x+1+1+1+1+1+1+1+1) (x+1+1+1+1+1+1+1) W W':=⟨s'.wg.trans s.wg.symm,s'.wh.trans s.wh.symm⟩
end
def seekObjs(T key h n:Nat)(L:Ln):List Obj:=
  [.cells #[.pointer (some ⟨T,0,none⟩)] 86 (0,0),.cells #[.pointer L.p] 52 (0,0),.cells #[.int .u64 (key:Nat)] 42 (0,0),.cells #[.int .u64 (h:Nat)] 42 (0,0),
   .cells #[.pointer none,.int .u64 0,.int .u64 0,.pointer none,.pointer none] 106 (0,0),.cells #[.pointer (some ⟨T,0,none⟩),.int .u64 (key:Nat),.int .u64 (h:Nat),.pointer none,.pointer none] 106 (0,0),.cells #[.bool false] 4 (0,0)]
def walkObjs(h n:Nat):List Obj:=[.cells #[.int .u64 ((h/128:Nat):Int)] 42 (0,0),.cells #[.int .i64 (n:Nat)] 3 (0,0)]
theorem SK.start(T key h n:Nat)(L:Ln)(m:Mt)(w:World)(hL:LnAt L m w)(q:Nat):SK T key h n L m w w.heap.size 0 none none false (allocs ((allocs w (seekObjs T key h n L)).drewN q) (walkObjs h n)):=by
 have hz:((allocs w (seekObjs T key h n L)).drewN q).heap.size=w.heap.size+7:=allocs_size (seekObjs T key h n L) w;have hb2:=allocs_below (walkObjs h n) ((allocs w (seekObjs T key h n L)).drewN q);have hb1:Below w.heap.size w ((allocs w (seekObjs T key h n L)).drewN q):=under.below_step (allocs_below _ w) (below_drewN' _ q)
 have c:∀i (c:Array Value) (ty:TypeId),(seekObjs T key h n L)[i]?=some (.cells c ty (0,0))→∀b,b=w.heap.size+i→∀j v,c[j]?=some v→(allocs ((allocs w (seekObjs T key h n L)).drewN q) (walkObjs h n)).cell? ⟨b,j,none⟩=some v:=fun i c ty hc b hb j v hv=>by
  have h1:((allocs w (seekObjs T key h n L)).drewN q).cell? ⟨b,j,none⟩=some v:=(allocs_cell _ w i hc b hb j).trans hv;exact keepc hb2 h1
 have f:∀i (c:Array Value) (ty:TypeId),(seekObjs T key h n L)[i]?=some (.cells c ty (0,0))→∀b,b=w.heap.size+i→i<7→∀j,(allocs ((allocs w (seekObjs T key h n L)).drewN q) (walkObjs h n)).frozen? ⟨b,j,none⟩=false:=fun i c ty hc b hb hi j=>by
  have h1:((allocs w (seekObjs T key h n L)).drewN q).frozen? ⟨b,j,none⟩=false:=allocs_frozen _ w i hc b hb j;exact (hb2.frozen (by rw [hz];show b<_;omega)).trans h1
 have d:∀i (c:Array Value) (ty:TypeId),(walkObjs h n)[i]?=some (.cells c ty (0,0))→∀b,b=w.heap.size+7+i→∀j,(allocs ((allocs w (seekObjs T key h n L)).drewN q) (walkObjs h n)).cell? ⟨b,j,none⟩=c[j]?:=fun i c ty hc b hb j=>allocs_cell _ _ i hc b (by rw [hz];exact hb) j
 exact⟨.of [] hL (under.below_step hb1 hb2),c 0 _ _ rfl _ (by omega) 0 _ rfl,c 1 _ _ rfl _ (by omega) 0 _ rfl,c 2 _ _ rfl _ (by omega) 0 _ rfl,c 3 _ _ rfl _ (by omega) 0 _ rfl,c 4 _ _ rfl _ (by omega) 0 _ rfl,c 4 _ _ rfl _ (by omega) 1 _ rfl,c 4 _ _ rfl _ (by omega) 2 _ rfl,c 4 _ _ rfl _ (by omega) 3 _ rfl,c 4 _ _ rfl _ (by omega) 4 _ rfl,f 4 _ _ rfl _ (by omega) (by decide),c 5 _ _ rfl _ (by omega) 0 _ rfl,c 5 _ _ rfl _ (by omega) 1 _ rfl,c 5 _ _ rfl _ (by omega) 2 _ rfl,c 5 _ _ rfl _ (by omega) 3 _ rfl,c 5 _ _ rfl _ (by omega) 4 _ rfl,f 5 _ _ rfl _ (by omega) (by decide),c 6 _ _ rfl _ (by omega) 0 _ rfl,f 6 _ _ rfl _ (by omega) (by decide) 0,d 0 _ _ rfl _ (by omega) 0,d 1 _ _ rfl _ (by omega) 0⟩
def SkI(T B key h:Nat)(t:Tb)(L:Ln)(m:Mt)(w:World)(pre:List (Fin t.n))(W:World):Prop:=
 (∀i∈pre,stp t key h i.val=false)∧SK T key h t.n L m w w.heap.size pre.length (lastA B (pre.map Fin.val)) (roomA t B (pre.map Fin.val)) ((pre.map Fin.val).any (free t)) W
theorem sk_own(T B key h:Nat)(t:Tb)(L:Ln)(m:Mt)(w:World)(hd:∀b∈L.d,b<w.heap.size)(D:Nat)(hD:w.heap.size+9≤D)(k:Nat)(lp rp:Option Addr)(rm:Bool) :
  OwnFrom D (fun (_:Unit) W=>SK T key h t.n L m w w.heap.size k lp rp rm W):=fun s X Y row h hg hr=>by
 have hz:=h.lt;exact h.below ((Below.refl (w.heap.size+9) X).grown hg (by omega) (fun k e=>Nat.le_trans hD (hr k e).1)) (Nat.le_refl _) (Nat.le_refl _) hd
def RoomD(W:World)(p:Addr)(u:Value):Nat→World→Prop
 | 0=>fun w'=>∃q,w'=W.drewN q
 | 1=>fun w'=>Below W.heap.size W w'
 | _=>fun w'=>∃w'',Below W.heap.size W w''∧w'=w''.setCell p u
theorem RoomD.cell{W:World}{p a:Addr}{u v:Value}(h:W.cell? a=some v)(hne:p≠a)(q:stage.Un (RoomD W p u)):q.W.cell? a=some v:=by
 obtain⟨i,w',h'⟩:=q
 match i,h' with
 | 0,⟨q,e⟩=>show w'.cell? a=_;rw [e];exact h
 | 1,h'=>exact keepc h' h
 | i+2,⟨w'',hb,e⟩=>show w'.cell? a=_;rw [e,World.cell?_setCell_other _ _ _ _ hne];exact keepc hb h
theorem SkI_next{T B key h:Nat}{t:Tb}{L:Ln}{m:Mt}{w W:World}{pre:List (Fin t.n)}{x:Fin t.n}{rp:Option Addr}{rm:Bool}(hno:∀i∈pre,stp t key h i.val=false)(hx:stp t key h x.val=false)
  (S:SK T key h t.n L m w w.heap.size (pre.length+1) (some ⟨B,x.val*25,none⟩) rp rm W)(hr:rp=roomA t B (pre.map Fin.val++[x.val]))(hm:rm=(pre.map Fin.val++[x.val]).any (free t)):SkI T B key h t L m w (pre++[x]) W:=by
 refine⟨fun i hi=>?_, ?_⟩
 ·rcases List.mem_append.1 hi with hi|hi
  ·exact hno i hi
  ·obtain rfl:i=x:=by simpa using hi
   exact hx
 ·rw [List.map_append,List.length_append,show [x].map Fin.val=[x.val] from rfl,lastA_snoc,←hr,←hm];exact S
theorem SkIx_next{T B key h:Nat}{t:Tb}{L:Ln}{m:Mt}{w W:World}{pre:List (Fin t.n)}{x:Fin t.n}{rp:Option Addr}{rm:Bool}(hno:∀i∈pre,stp t key h i.val=false)(hx:stp t key h x.val=true)
  (S:SK T key h t.n L m w w.heap.size (pre.length+1) (some ⟨B,x.val*25,none⟩) rp rm W)(hr:rp=roomA t B (pre.map Fin.val++[x.val]))(hm:rm=(pre.map Fin.val++[x.val]).any (free t)) :
  ∃p y,pre++[x]=p++[y]∧(∀i∈p,stp t key h (Fin.val i)=false)∧stp t key h (Fin.val y)=true∧SK T key h t.n L m w w.heap.size (pre++[x]).length (lastA B ((pre++[x]).map Fin.val)) (roomA t B ((pre++[x]).map Fin.val)) (((pre++[x]).map Fin.val).any (free t)) W:=by
 refine⟨pre,x,rfl,hno,hx, ?_⟩;rw [List.map_append,List.length_append,show [x].map Fin.val=[x.val] from rfl,lastA_snoc,←hr,←hm];exact S
theorem seek_end{T B key h:Nat}{t:Tb}{L:Ln}{m:Mt}{w W:World}{l:List (Fin t.n)}{rm:Bool}(hn:okN t.n)(hsn:sn t key h=l.map Fin.val)(S:SK T key h t.n L m w w.heap.size l.length (lastA B (l.map Fin.val)) (roomA t B (l.map Fin.val)) rm W)(hd:∀b∈L.d,b<w.heap.size)(D:Nat)(hD:w.heap.size+9≤D)(hK:W.heap[D]?=some (.deferred (some []))) :
  SK T key h t.n L m w w.heap.size (looks t key h) (some ⟨B,lastG t key h*25,none⟩) (some ⟨B,roomG t key h*25,none⟩) rm W:=by
 have hne:=sn_ne t key h hn;rw [hsn] at hne;have e1:lastA B (l.map Fin.val)=some ⟨B,lastG t key h*25,none⟩:=by unfold lastA lastG;rw [if_neg hne,hsn]
 have e2:roomA t B (l.map Fin.val)=some ⟨B,roomG t key h*25,none⟩:=by unfold roomA roomG;rw [if_neg hne,hsn]
 have e3:l.length=looks t key h:=by unfold looks;rw [hsn,List.length_map]
 rw [←e1,←e2,←e3];exact S
theorem seek_ret{T B key h n lg rg:Nat}{L:Ln}{m:Mt}{w W:World}{k:Nat}{rm:Bool}(S:SK T key h n L m w w.heap.size k (some ⟨B,lg*25,none⟩) (some ⟨B,rg*25,none⟩) rm W)(hd:∀b∈L.d,b<w.heap.size)(D:Nat)(hD:w.heap.size+9≤D)(hK:W.heap[D]?=some (.deferred (some [])))
  (W':World)(hW:W'=(((((W.setCell ⟨w.heap.size+1+1+1+1,0,none⟩ (.pointer (some ⟨T,0,none⟩))).setCell ⟨w.heap.size+1+1+1+1,1,none⟩ (.int .u64 (key:Nat))).setCell ⟨w.heap.size+1+1+1+1,2,none⟩ (.int .u64 (h:Nat))).setCell ⟨w.heap.size+1+1+1+1,3,none⟩ (.pointer (some ⟨B,lg*25,none⟩))).setCell ⟨w.heap.size+1+1+1+1,4,none⟩ (.pointer (some ⟨B,rg*25,none⟩)))) :
  W'.heap[D]?=some (.deferred (some []))∧SBox (w.heap.size+1+1+1+1) T B key h lg rg (W'.putObj D (.deferred none))∧LnStep [] L (L.see m k) w (W'.putObj D (.deferred none)):=by
 have hs:LnStep [] L (L.see m k) w W':=by
  rw [hW];exact ((((S.ln.newset hd (by simp;omega) _).newset hd (by simp;omega) _).newset hd (by simp;omega) _).newset hd (by simp;omega) _).newset hd (by simp;omega) _
 have hb:SBox (w.heap.size+1+1+1+1) T B key h lg rg W':=by
  rw [hW];constructor <;> simp [World.cell?_setCell_same',World.cell?_setCell_other,S.r0,S.r1,S.r2,S.r3,S.r4]
 have hz:W.heap.size=W'.heap.size:=by rw [hW];simp [World.setCell]
 have hD':W'.heap[D]?=some (.deferred (some [])):=by
  have o:∀(X:World) (i:Nat) (v:Value),(X.setCell ⟨w.heap.size+1+1+1+1,i,none⟩ v).heap[D]?=X.heap[D]?:=fun X i v=>Below.heap_setCell _ _ _ _ (by show D≠w.heap.size+1+1+1+1;omega)
  rw [hW,o,o,o,o,o];exact hK
 have k:Below (w.heap.size+9) W' (W'.putObj D (.deferred none)):=(Below.refl _ W').grown (grownBy_putObj' W' D (.deferred none)) (by have:=S.lt;omega) (fun r e=>by cases e;exact hD);have c:∀{i v},W'.cell? ⟨w.heap.size+1+1+1+1,i,none⟩=some v→(W'.putObj D (.deferred none)).cell? ⟨w.heap.size+1+1+1+1,i,none⟩=some v:=fun hc=>(k.cell (by show w.heap.size+1+1+1+1<_;omega)).trans hc
 exact⟨hD',⟨c hb.c0,c hb.c1,c hb.c2,c hb.c3,c hb.c4⟩,LnStep.belowD hs k (by omega) hd⟩
set_option maxRecDepth 100000 in
set_option maxHeartbeats 4000000 in
theorem seek_any(T B:Nat)(t:Tb)(ht:t.Ok)(key h:Nat)(hk:key<18446744073709551616)(hh:h<18446744073709551616)(L:Ln)(m:Mt)(w:World)(hT:TAt T B t w)(hL:LnAt L m w)(hA:Apart T B L)(hX:TabOk w)(hF:Far L.d) :
  Calls Tryz.prog 46 #[.pointer (some ⟨T,0,none⟩),.agg #[.pointer L.p],.int .u64 key,.int .u64 h] w fun e w'=>e=.returned (spotV T B key h (lastG t key h) (roomG t key h))∧LnStep [] L (L.see m (looks t key h)) w w':=by
 have hd:=hL.lt;have hn:=okN_le ht.n;have hn0:=okN_pos ht.n;refine (callsIn_wide (n:=3)).1 (callsIn_of_wp_marks Tryz.func46 rfl trivial ?_ rfl);simp only [Tryz.ntmps46,List.size_toArray,List.length_cons,List.length_nil,Nat.reduceAdd,Nat.reduceSub,Array.replicate_succ,Array.replicate_zero,List.push_toArray,List.append_toArray,List.nil_append,List.cons_append];refine wpIn_wide.2 ?_;go_wp2;have hS:=SK.start T key h t.n L m w hL;have hB7:=allocs_below (seekObjs T key h t.n L) w;have hz7:(allocs w (seekObjs T key h t.n L)).heap.size=w.heap.size+7:=allocs_size (seekObjs T key h t.n L) w;have e7:(((((((w.alloc (.cells #[.pointer (some ⟨T,0,none⟩)] 86)).alloc (.cells #[.pointer L.p] 52)).alloc (.cells #[.int .u64 (key:Nat)] 42)).alloc (.cells #[.int .u64 (h:Nat)] 42)).alloc (.cells #[.pointer none,.int .u64 0,.int .u64 0,.pointer none,.pointer none] 106)).alloc (.cells #[.pointer (some ⟨T,0,none⟩),.int .u64 (key:Nat),.int .u64 (h:Nat),.pointer none,.pointer none] 106)).alloc (.cells #[.bool false] 4))=allocs w (seekObjs T key h t.n L):=rfl;rw [e7];have c0:(allocs w (seekObjs T key h t.n L)).cell? ⟨w.heap.size,0,none⟩=some (.pointer (some ⟨T,0,none⟩)):=allocs_cell (seekObjs T key h t.n L) w 0 (c:=#[.pointer (some ⟨T,0,none⟩)]) (t:=86) rfl _ rfl 0;have c3:(allocs w (seekObjs T key h t.n L)).cell? ⟨w.heap.size+1+1+1,0,none⟩=some (.int .u64 (h:Nat)):=allocs_cell (seekObjs T key h t.n L) w 3 (c:=#[.int .u64 (h:Nat)]) (t:=42) rfl _ rfl 0;have cr:=(hT.below hB7).row;generalize allocs w (seekObjs T key h t.n L)=W7 at *
 clear e7;have c1:=fun W=>(split.h1_any h W).mono fun e w' (k:_∧W=w')=>(⟨k.1,k.2.symm⟩:_∧w'=W)
 refine wp_region_tail_drew 7 (by kernel_rfl) (by kernel_rfl) ?_;simp only [List.take_succ_cons,List.take_zero,List.drop_succ_cons,List.drop_zero]
 repeat (quiet_step ((go_at_call 95;exact Calls.quiet_of_same (c1 _))))
 refine wpQuiet_nil ?_;intro w4 hw4;obtain⟨q,rfl⟩:=hw4
 go_wp2_with (go_at_call 94;refine (walk_any _ _ _).mono ?_;rintro e w' ⟨rfl,rfl⟩)
 have hS0:=hS q;obtain⟨W0,hW0⟩:∃W0,((W7.drewN q).alloc (.cells #[.int .u64 ((h/128:Nat):Int)] 42)).alloc (.cells #[.int .i64 (t.n:Nat)] 3)=W0:=⟨_,rfl⟩;have hW0':allocs (W7.drewN q) (walkObjs h t.n)=W0:=hW0;rw [hW0'] at hS0;have hz0:W0.heap.size=w.heap.size+9:=by rw [←hW0',allocs_size];show W7.heap.size+2=_;omega
 have eb:(W7.drewN q).heap.size=w.heap.size+1+1+1+1+1+1+1:=by show W7.heap.size=_;omega
 have e128:((h:Nat):Int)/128=((h/128:Nat):Int):=by omega
 rw [e128,hW0];clear e128;clear hW0 hW0' c0 c3 cr c1 hS hB7 hz7 eb;have hsz:∀W,Below W0.heap.size W0 W→True:=fun _ _=>trivial
 refine (wpIn_wide (n:=3)).1 ?_
 refine (wpIn_rangeFunc_ownG (F:=Fence.wide) (n:=3) rfl (by decide) (gf:=128) (lb:=#[.pointer (some ⟨w.heap.size+1+1+1+1+1+1+1+1,0,none⟩),.pointer (some ⟨w.heap.size+1+1+1+1+1+1+1,0,none⟩)]) rfl trivial (enters_of Tryz.func128 (by kernel_rfl) rfl)
  (walk_stopsF 2 (by decide) _ _ (h/128) t.n ht.n W0 (by omega) (by omega) hS0.wg hS0.wh) keepB_t (keepB_b (by omega) (by omega)) (Below.refl _ _) (fun _=>rfl)
  (SkI T B key h t L m w)
  (fun c pre W=>c=.exit 0∧∃p x,pre=p++[x]∧(∀i∈p,stp t key h (Fin.val i)=false)∧stp t key h (Fin.val x)=true∧SK T key h t.n L m w w.heap.size pre.length (lastA B (pre.map Fin.val)) (roomA t B (pre.map Fin.val)) ((pre.map Fin.val).any (free t)) W)
  ?hI ?hIx ?h0 ?a1 ?assign ?body ?done ?stop)
 case assign =>
  intro l x W K hK;gi_wp2;exact hK
 case hI =>
  intro s X Y row hs hg hr;exact⟨hs.1,sk_own T B key h t L m w hd _ (by omega) _ _ _ _ () X Y row hs.2 hg hr⟩
 case hIx =>
  intro c s X Y row hs hg hr;obtain⟨h1,p,x,h2,h3,h4,h5⟩:=hs;exact⟨h1,p,x,h2,h3,h4,sk_own T B key h t L m w hd _ (by omega) _ _ _ _ () X Y row h5 hg hr⟩
 case h0=>exact⟨by simp,hS0⟩
 case body =>
  rintro l pre x W ⟨hno,hS1⟩ hlen;have hxn:=x.isLt;have hxi:((x.val:Nat):Int)<(t.n:Int):=by omega
  have HNo:=Lib.hid hno;have HS1:=Lib.hid hS1;have hTW:=TAt.past hT hS1.ln.past (by simpa using hA.t) (by simpa using hA.b);have k1:=hS1.ct;have k2:=hS1.cl;have k3:=hTW.row;have hLW:=hS1.ln.at';have hdW:∀b∈L.d,b<W.heap.size:=hLW.lt;have hlk:=Lib.hid (look_any B (x.val*25) L (L.see m pre.length));generalize hm1:L.see m pre.length=m1 at hlk hLW;have hAc:∀w',LnStep [] L (L.one m1) W w'→∀{b k v},b∉L.d→W.cell? ⟨b,k,none⟩=some v→w'.cell? ⟨b,k,none⟩=some v:=fun w' hs b k v hb c=>hs.past.cell c (by simpa using hb)
  have q1:=CallD.cell (A:=LnStep [] L (L.one m1) W) k1 (fun w' hs=>hAc w' hs (hL.nd (by omega)) k1);have q2:=CallD.cell (A:=LnStep [] L (L.one m1) W) k2 (fun w' hs=>hAc w' hs (hL.nd (by omega)) k2);have q3:=CallD.cell (A:=LnStep [] L (L.one m1) W) k3 (fun w' hs=>hAc w' hs hA.t k3)
  haveI : Nonempty (stage.Un (CallD W (LnStep [] L (L.one m1) W))):=⟨⟨0,W,0,rfl⟩⟩
  clear hno hS1 hTW k1 k2 k3 hAc;gi_wp2;refine move.region (D:=CallD W (LnStep [] L (L.one m1) W)) 9 [false,false,false,false,false,false,false,true,false] (by kernel_rfl) (by kernel_rfl) (by kernel_rfl) ⟨1,rfl⟩ ?_;simp only [List.take_succ_cons,List.take_zero,List.drop_succ_cons,List.drop_zero]
  iterate 7
   refine move.pure_step (fun _ _ _=>trivial) (fun K hK=>?_);go_simp;refine hK _ ?_;clear hK K
  refine move.move_step (v:=.agg #[.pointer (some ⟨B,x.val*25,none⟩)]) (fun _ _ _=>trivial) (by kernel_rfl) (fun wd hd=>?_) (fun K hK=>?_)
  ·obtain⟨q,rfl⟩:=hd
   go_simp;refine (CallsIn.inRound _ (callsIn_wide.2 (hlk.out _ (hLW.below (below_drewN' W q))))).mono ?_;rintro e' w' ⟨rfl,hs⟩;exact⟨rfl,(LnStep.of [] hLW (below_drewN' W q)).trans hs⟩
  refine hK _ ?_;clear hK K;refine move.pure_step (fun _ _ _=>trivial) (fun K hK=>?_);go_simp;refine hK _ ?_;clear hK K;refine move.nil_step ?_;intro w5 hs5;have hs5':LnStep [] L (L.one m1) W w5:=hs5;have hS2:=HS1.out.look (Nat.le_refl _) hd (by rw [hm1];exact hs5');have hp5:Past (L.d++[w.heap.size+1+1+1+1+1,w.heap.size+1+1+1+1+1+1]) W w5:=hs5'.past.mono fun k hk=>by simpa using .inl hk
  clear q1 q2 q3 this hs5 hs5' hLW hlk hm1 m1;have k3:=hS2.s3;have kf:=hS2.sf 3;cases hany:(pre.map Fin.val).any (free t)
  ·have S:=hS2.setLast (Nat.le_refl _) hd (some ⟨B,x.val*25,none⟩)
   have P:=hp5.store (p:=⟨w.heap.size+1+1+1+1+1,3,none⟩) (.inl (by simp)) (.pointer (some ⟨B,x.val*25,none⟩));have kr:=hS2.rm;rw [hany] at kr S;gi_wp2;generalize w5.setCell ⟨w.heap.size+1+1+1+1+1,3,none⟩ (.pointer (some ⟨B,x.val*25,none⟩))=w6 at S P ⊢;clear hS2 hp5 k3 kf kr;have hrp:=Lib.hid ((roomA_no hany B x.val).symm:some (⟨B,x.val*25,none⟩:Addr)=roomA t B (pre.map Fin.val++[x.val]));have hrm0:decide (0≤least (t.gs x.val))=(pre.map Fin.val++[x.val]).any (free t):=by rw [List.any_append,hany];simp [free]
   have hGx:=(TAt.past hT S.ln.past (by simpa using hA.t) (by simpa using hA.b)).gs x.val x.isLt;have hXx:=tab_past hX S.ln.past (by simpa using hF);have cR:=fun W' (hb:Below w6.heap.size w6 W')=>free_any B (x.val*25) (t.gs x.val) (ht.gs _) W' (hGx.below hb) (hXx.below hb hXx.lt)
   generalize least (t.gs x.val)=lv at cR hrm0;have hrm:=Lib.hid hrm0;clear hrm0;have q1:=RoomD.cell (p:=⟨w.heap.size+1+1+1+1+1,4,none⟩) (u:=.pointer (some ⟨B,x.val*25,none⟩)) S.s3 (off_ne (by decide));have HS:=Lib.hid S
   haveI : Nonempty (stage.Un (RoomD w6 ⟨w.heap.size+1+1+1+1+1,4,none⟩ (.pointer (some ⟨B,x.val*25,none⟩)))):=⟨⟨0,w6,0,rfl⟩⟩
   clear S hGx hXx;refine move.region (D:=RoomD w6 ⟨w.heap.size+1+1+1+1+1,4,none⟩ (.pointer (some ⟨B,x.val*25,none⟩))) 8 [false,false,false,false,true,false,false,true] (by kernel_rfl) (by kernel_rfl) (by kernel_rfl) ⟨1,rfl⟩ ?_;simp only [List.take_succ_cons,List.take_zero,List.drop_succ_cons,List.drop_zero]
   iterate 4
    refine move.pure_step (fun _ _ _=>trivial) (fun K hK=>?_);go_simp;refine hK _ ?_;clear hK K
   refine move.move_step (v:=.int .i64 lv) (fun _ _ _=>trivial) (by kernel_rfl) (fun wd hd=>?_) (fun K hK=>?_)
   ·obtain⟨q,rfl⟩:=hd
    go_simp;refine (CallsIn.inRound _ (callsIn_wide.2 (cR _ (below_drewN' w6 q)))).mono ?_;rintro e' w' ⟨rfl,hs⟩;exact⟨rfl,under.below_step (below_drewN' w6 q) hs⟩
   refine hK _ ?_;clear hK K
   iterate 2
    refine move.pure_step (fun _ _ _=>trivial) (fun K hK=>?_);go_simp;refine hK _ ?_;clear hK K
   refine move.move_step (v:=undef) (fun _ _ _=>trivial) (by kernel_rfl) (fun wd hd9=>?_) (fun K hK=>?_)
   ·have hb9:Below w6.heap.size w6 wd:=hd9
    have S9:=HS.out.below hb9 (Nat.le_refl _) HS.out.lt hd;have k4:=S9.s4;have kf:=S9.sf 4;clear S9 hd9;go_simp;exact⟨wd,hb9,rfl⟩
   refine hK _ ?_;clear hK K;refine move.nil_step ?_;rintro w10 ⟨w9,hb9,rfl⟩;have S9:=HS.out.below hb9 (Nat.le_refl _) HS.out.lt hd;have P9:=(P.trans (Past.of hb9)).store (p:=⟨w.heap.size+1+1+1+1+1,4,none⟩) (.inl (by simp)) (.pointer (some ⟨B,x.val*25,none⟩))
   replace P:=P9.store (p:=⟨w.heap.size+1+1+1+1+1+1,0,none⟩) (.inl (by simp)) (.bool (decide (0≤lv)))
   have S10:=S9.setRoom (Nat.le_refl _) hd (some ⟨B,x.val*25,none⟩);have S:=S10.setRm (Nat.le_refl _) hd (decide (0≤lv));have kr:=S10.rm;have krf:=S10.rmf;have k3:=S10.s3;clear q1 this cR HS;generalize w9.setCell ⟨w.heap.size+1+1+1+1+1,4,none⟩ (.pointer (some ⟨B,x.val*25,none⟩))=w11 at S P S10 P9 kr krf k3 ⊢
   gi_wp2_with (fail)
   generalize w11.setCell ⟨w.heap.size+1+1+1+1+1+1,0,none⟩ (.bool (decide (0≤lv)))=w7 at S P ⊢;clear S9 P9 hb9 kr krf k3 S10 w11 w9 w6;generalize w7=w6 at S P ⊢;have hGx:=(TAt.past hT S.ln.past (by simpa using hA.t) (by simpa using hA.b)).gs x.val x.isLt;have hXx:=tab_past hX S.ln.past (by simpa using hF);have cO:=open_any B (x.val*25) (t.gs x.val) (ht.gs _) w6 hGx;have z3:=S.s3;have HS:=Lib.hid S;have HP:=Lib.hid P;clear S P;cases ho:opens (t.gs x.val)
   ·rw [ho] at cO
    have cF:=fun W' (hb:Below w6.heap.size w6 W')=>find_any B (x.val*25) (t.gs x.val) key h hh (ht.gs _) W' (hGx.below hb) (hXx.below hb hXx.lt)
    have HO:=Lib.hid ho;clear ho;obtain⟨fv,hfv⟩:∃fv,find key h (t.gs x.val)=fv:=⟨_,rfl⟩;rw [hfv] at cF;have HF:=Lib.hid hfv;clear hfv
    by_cases hge:0≤fv
    ·have hst:stp t key h x.val=true:=by unfold stp;rw [HF.out,decide_eq_true hge];simp
     have HST:=Lib.hid hst;have dge:decide (0≤fv)=true:=decide_eq_true hge;clear hst hge
     gi_wp2_with (first
      | (refine⟨trivial, ?_⟩;gi_at_call 98;refine (CallsIn.inRound _ (callsIn_wide.2 cO)).mono ?_;rintro e w7 ⟨rfl,hb7⟩;have S7:=HS.out.below hb7 (Nat.le_refl _) HS.out.lt hd;have y3:=S7.s3;have y1:=S7.ck;have y2:=S7.ch)
      | (refine⟨trivial, ?_⟩;gi_at_call 99;refine (CallsIn.inRound _ (callsIn_wide.2 (cF _ hb7))).mono ?_;rintro e w8 ⟨rfl,hb8⟩;have S8:=S7.below hb8 (Nat.le_refl _) S7.lt hd))
     have P8:Past (L.d++[w.heap.size+1+1+1+1+1,w.heap.size+1+1+1+1+1+1]) W w8:=(HP.out.trans (Past.of hb7)).trans (Past.of hb8);have K8:=keeps_from P8 (B:=w.heap.size+9) (by intro b hb;rw [List.mem_append] at hb;rcases hb with hb|hb;have:=hd b hb;omega;rcases List.mem_cons.1 hb with rfl|hb;omega;rcases List.mem_cons.1 hb with rfl|hb;omega;cases hb);exact⟨by rw [hz0];exact K8,rfl,SkIx_next HNo.out HST.out S8 hrp.out hrm.out⟩
    ·have hst:stp t key h x.val=false:=by unfold stp;rw [HO.out,HF.out,decide_eq_false hge];rfl
     have HST:=Lib.hid hst;have dge:decide (0≤fv)=false:=decide_eq_false hge;clear hst hge
     gi_wp2_with (first
      | (refine⟨trivial, ?_⟩;gi_at_call 98;refine (CallsIn.inRound _ (callsIn_wide.2 cO)).mono ?_;rintro e w7 ⟨rfl,hb7⟩;have S7:=HS.out.below hb7 (Nat.le_refl _) HS.out.lt hd;have y3:=S7.s3;have y1:=S7.ck;have y2:=S7.ch)
      | (refine⟨trivial, ?_⟩;gi_at_call 99;refine (CallsIn.inRound _ (callsIn_wide.2 (cF _ hb7))).mono ?_;rintro e w8 ⟨rfl,hb8⟩;have S8:=S7.below hb8 (Nat.le_refl _) S7.lt hd))
     have P8:Past (L.d++[w.heap.size+1+1+1+1+1,w.heap.size+1+1+1+1+1+1]) W w8:=(HP.out.trans (Past.of hb7)).trans (Past.of hb8);have K8:=keeps_from P8 (B:=w.heap.size+9) (by intro b hb;rw [List.mem_append] at hb;rcases hb with hb|hb;have:=hd b hb;omega;rcases List.mem_cons.1 hb with rfl|hb;omega;rcases List.mem_cons.1 hb with rfl|hb;omega;cases hb);exact⟨by rw [hz0];exact K8,HS1.out.keepB S8,SkI_next HNo.out HST.out S8 hrp.out hrm.out⟩
   ·rw [ho] at cO
    have HO:=Lib.hid ho;clear ho
    gi_wp2_with (refine⟨trivial, ?_⟩;gi_at_call 98;refine (CallsIn.inRound _ (callsIn_wide.2 cO)).mono ?_;rintro e w7 ⟨rfl,hb7⟩;have S7:=HS.out.below hb7 (Nat.le_refl _) HS.out.lt hd)
    refine⟨trivial, ?_⟩;gi_wp2;have P7:Past (L.d++[w.heap.size+1+1+1+1+1,w.heap.size+1+1+1+1+1+1]) W w7:=HP.out.trans (Past.of hb7);have K7:=keeps_from P7 (B:=w.heap.size+9) (by intro b hb;rw [List.mem_append] at hb;rcases hb with hb|hb;have:=hd b hb;omega;rcases List.mem_cons.1 hb with rfl|hb;omega;rcases List.mem_cons.1 hb with rfl|hb;omega;cases hb);have hst:stp t key h x.val=true:=by unfold stp;rw [HO.out];rfl
    exact⟨by rw [hz0];exact K7,rfl,SkIx_next HNo.out hst S7 hrp.out hrm.out⟩
  ·have S:=hS2.setLast (Nat.le_refl _) hd (some ⟨B,x.val*25,none⟩)
   have P:=hp5.store (p:=⟨w.heap.size+1+1+1+1+1,3,none⟩) (.inl (by simp)) (.pointer (some ⟨B,x.val*25,none⟩));have kr:=hS2.rm;rw [hany] at kr S
   gi_wp2_with (fail)
   have hrp:=Lib.hid ((roomA_yes hany B x.val).symm:roomA t B (pre.map Fin.val)=roomA t B (pre.map Fin.val++[x.val]));have hrm:Hid (true=(pre.map Fin.val++[x.val]).any (free t)):=Lib.hid (by rw [List.any_append,hany];rfl);generalize w5.setCell ⟨w.heap.size+1+1+1+1+1,3,none⟩ (.pointer (some ⟨B,x.val*25,none⟩))=w6 at S P ⊢;clear hS2 hp5 k3 kf kr;have hGx:=(TAt.past hT S.ln.past (by simpa using hA.t) (by simpa using hA.b)).gs x.val x.isLt;have hXx:=tab_past hX S.ln.past (by simpa using hF);have cO:=open_any B (x.val*25) (t.gs x.val) (ht.gs _) w6 hGx;have z3:=S.s3;have HS:=Lib.hid S;have HP:=Lib.hid P;clear S P;cases ho:opens (t.gs x.val)
   ·rw [ho] at cO
    have cF:=fun W' (hb:Below w6.heap.size w6 W')=>find_any B (x.val*25) (t.gs x.val) key h hh (ht.gs _) W' (hGx.below hb) (hXx.below hb hXx.lt)
    have HO:=Lib.hid ho;clear ho;obtain⟨fv,hfv⟩:∃fv,find key h (t.gs x.val)=fv:=⟨_,rfl⟩;rw [hfv] at cF;have HF:=Lib.hid hfv;clear hfv
    by_cases hge:0≤fv
    ·have hst:stp t key h x.val=true:=by unfold stp;rw [HF.out,decide_eq_true hge];simp
     have HST:=Lib.hid hst;have dge:decide (0≤fv)=true:=decide_eq_true hge;clear hst hge
     gi_wp2_with (first
      | (refine⟨trivial, ?_⟩;gi_at_call 98;refine (CallsIn.inRound _ (callsIn_wide.2 cO)).mono ?_;rintro e w7 ⟨rfl,hb7⟩;have S7:=HS.out.below hb7 (Nat.le_refl _) HS.out.lt hd;have y3:=S7.s3;have y1:=S7.ck;have y2:=S7.ch)
      | (refine⟨trivial, ?_⟩;gi_at_call 99;refine (CallsIn.inRound _ (callsIn_wide.2 (cF _ hb7))).mono ?_;rintro e w8 ⟨rfl,hb8⟩;have S8:=S7.below hb8 (Nat.le_refl _) S7.lt hd))
     have P8:Past (L.d++[w.heap.size+1+1+1+1+1,w.heap.size+1+1+1+1+1+1]) W w8:=(HP.out.trans (Past.of hb7)).trans (Past.of hb8);have K8:=keeps_from P8 (B:=w.heap.size+9) (by intro b hb;rw [List.mem_append] at hb;rcases hb with hb|hb;have:=hd b hb;omega;rcases List.mem_cons.1 hb with rfl|hb;omega;rcases List.mem_cons.1 hb with rfl|hb;omega;cases hb);exact⟨by rw [hz0];exact K8,rfl,SkIx_next HNo.out HST.out S8 hrp.out hrm.out⟩
    ·have hst:stp t key h x.val=false:=by unfold stp;rw [HO.out,HF.out,decide_eq_false hge];rfl
     have HST:=Lib.hid hst;have dge:decide (0≤fv)=false:=decide_eq_false hge;clear hst hge
     gi_wp2_with (first
      | (refine⟨trivial, ?_⟩;gi_at_call 98;refine (CallsIn.inRound _ (callsIn_wide.2 cO)).mono ?_;rintro e w7 ⟨rfl,hb7⟩;have S7:=HS.out.below hb7 (Nat.le_refl _) HS.out.lt hd;have y3:=S7.s3;have y1:=S7.ck;have y2:=S7.ch)
      | (refine⟨trivial, ?_⟩;gi_at_call 99;refine (CallsIn.inRound _ (callsIn_wide.2 (cF _ hb7))).mono ?_;rintro e w8 ⟨rfl,hb8⟩;have S8:=S7.below hb8 (Nat.le_refl _) S7.lt hd))
     have P8:Past (L.d++[w.heap.size+1+1+1+1+1,w.heap.size+1+1+1+1+1+1]) W w8:=(HP.out.trans (Past.of hb7)).trans (Past.of hb8);have K8:=keeps_from P8 (B:=w.heap.size+9) (by intro b hb;rw [List.mem_append] at hb;rcases hb with hb|hb;have:=hd b hb;omega;rcases List.mem_cons.1 hb with rfl|hb;omega;rcases List.mem_cons.1 hb with rfl|hb;omega;cases hb);exact⟨by rw [hz0];exact K8,HS1.out.keepB S8,SkI_next HNo.out HST.out S8 hrp.out hrm.out⟩
   ·rw [ho] at cO
    have HO:=Lib.hid ho;clear ho
    gi_wp2_with (refine⟨trivial, ?_⟩;gi_at_call 98;refine (CallsIn.inRound _ (callsIn_wide.2 cO)).mono ?_;rintro e w7 ⟨rfl,hb7⟩;have S7:=HS.out.below hb7 (Nat.le_refl _) HS.out.lt hd)
    refine⟨trivial, ?_⟩;gi_wp2;have P7:Past (L.d++[w.heap.size+1+1+1+1+1,w.heap.size+1+1+1+1+1+1]) W w7:=HP.out.trans (Past.of hb7);have K7:=keeps_from P7 (B:=w.heap.size+9) (by intro b hb;rw [List.mem_append] at hb;rcases hb with hb|hb;have:=hd b hb;omega;rcases List.mem_cons.1 hb with rfl|hb;omega;rcases List.mem_cons.1 hb with rfl|hb;omega;cases hb);have hst:stp t key h x.val=true:=by unfold stp;rw [HO.out];rfl
    exact⟨by rw [hz0];exact K7,rfl,SkIx_next HNo.out hst S7 hrp.out hrm.out⟩
 case done =>
  rintro D ys W hD hys ⟨hno,hS1⟩ hK
  have hsn:sn t key h=ys.map Fin.val:=by
   unfold sn path;rw [←hys];refine seen_all fun i hi=>?_
   obtain⟨j,hj,rfl⟩:=List.mem_map.1 hi;exact hno j hj
  have HE:=Lib.hid (seek_end ht.n hsn hS1 hd D (by omega) hK);clear hno hS1 hsn hys;have k0:=HE.out.s0;have k1:=HE.out.s1;have k2:=HE.out.s2;have k3:=HE.out.s3;have k4:=HE.out.s4;have r0:=HE.out.r0;have r1:=HE.out.r1;have r2:=HE.out.r2;have r3:=HE.out.r3;have r4:=HE.out.r4;have rf:=HE.out.rf;go_wp2;obtain⟨e1,e2,e3⟩:=seek_ret HE.out hd D (by omega) hK _ rfl;refine⟨by simp,.inl ⟨_,_,rfl,run_takeDeferred e1, ?_⟩⟩;refine⟨spotV T B key h (lastG t key h) (roomG t key h), ?_,rfl,e3⟩
  simp [results,Tryz.f46,go_sem,e2.c0,e2.c1,e2.c2,e2.c3,e2.c4]
 case stop =>
  rintro D c pre W hD hpre ⟨rfl,p,x,rfl,hno,hx,hS1⟩ hK
  have hsn:sn t key h=(p++[x]).map Fin.val:=by
   rw [List.map_append] at hpre ⊢;refine seen_at hx hpre fun i hi=>?_
   obtain⟨j,hj,rfl⟩:=List.mem_map.1 hi;exact hno j hj
  have HE:=Lib.hid (seek_end ht.n hsn hS1 hd D (by omega) hK);clear hno hS1 hsn hpre hx;refine wpIn_wide.2 ?_;have k0:=HE.out.s0;have k1:=HE.out.s1;have k2:=HE.out.s2;have k3:=HE.out.s3;have k4:=HE.out.s4;have r0:=HE.out.r0;have r1:=HE.out.r1;have r2:=HE.out.r2;have r3:=HE.out.r3;have r4:=HE.out.r4;have rf:=HE.out.rf;go_wp2;obtain⟨e1,e2,e3⟩:=seek_ret HE.out hd D (by omega) hK _ rfl;refine⟨by simp,.inl ⟨_,_,rfl,run_takeDeferred e1, ?_⟩⟩;refine⟨spotV T B key h (lastG t key h) (roomG t key h), ?_,rfl,e3⟩
  simp [results,Tryz.f46,go_sem,e2.c0,e2.c1,e2.c2,e2.c3,e2.c4]
structure Ready(ae:String→Addr)(T B:Nat)(t:Tb)(L:Ln)(m:Mt)(w:World):Prop where
 at':TAt T B t w
 ok:t.Ok
 ln:LnAt L m w
 apart:Apart T B L
 bits:TabOk w
 far:Far L.d
 ft:18≤T
 fb:18≤B
 errs:Errs6 ae w
theorem Ready.below{ae:String→Addr}{T B:Nat}{t:Tb}{L:Ln}{m:Mt}{w W:World}(h:Ready ae T B t L m w)(hb:Below w.heap.size w W):Ready ae T B t L m W:=
 ⟨h.at'.below hb,h.ok,h.ln.below hb,h.apart,h.bits.below hb h.bits.lt,h.far,h.ft,h.fb,h.errs.below hb⟩
theorem Ready.look{ae:String→Addr}{T B:Nat}{t:Tb}{L:Ln}{m m':Mt}{w W:World}(h:Ready ae T B t L m w)(hs:LnStep [] L m' w W):Ready ae T B t L m' W:=
 ⟨h.at'.past hs.past (by simpa using h.apart.t) (by simpa using h.apart.b),h.ok,hs.at',h.apart,tab_past h.bits hs.past (by simpa using h.far),h.far,h.ft,h.fb,h.errs.past hs.past (by simpa using h.far)⟩
theorem Ready.step{ae:String→Addr}{T B:Nat}{t t':Tb}{L:Ln}{m:Mt}{w W:World}(h:Ready ae T B t L m w)(hs:TStep T B t' w W)(ok:t'.Ok):Ready ae T B t' L m W:=by
 have hf:Far [T,B]:=fun b hb=>by
  rcases List.mem_cons.1 hb with rfl|hb
  ·exact h.ft
  ·obtain rfl:b=B:=by simpa using hb
   exact h.fb
 exact⟨hs.at',ok,h.ln.past hs.past (fun b hb=>by have:=h.apart b hb;simpa using this),h.apart,tab_past h.bits hs.past hf,h.far,h.ft,h.fb,h.errs.past hs.past hf⟩
theorem Ready.seek{ae:String→Addr}{T B:Nat}{t:Tb}{L:Ln}{m:Mt}{w:World}(h:Ready ae T B t L m w)(key hs:Nat)(hk:key<18446744073709551616)(hh:hs<18446744073709551616) :
  Calls Tryz.prog 46 #[.pointer (some ⟨T,0,none⟩),.agg #[.pointer L.p],.int .u64 key,.int .u64 hs] w fun e w'=>e=.returned (spotV T B key hs (lastG t key hs) (roomG t key hs))∧LnStep [] L (L.see m (looks t key hs)) w w':=
 seek_any T B t h.ok key hs hk hh L m w h.at' h.ln h.apart h.bits h.far
theorem Ready.entry{ae:String→Addr}{T B:Nat}{t:Tb}{L:Ln}{m:Mt}{w:World}(h:Ready ae T B t L m w)(key hs:Nat)(hh:hs<18446744073709551616) :
  Calls Tryz.prog 102 #[spotV T B key hs (lastG t key hs) (roomG t key hs)] w fun e w'=>e=.returned (.tuple #[group.entV (entOf t key hs).key (entOf t key hs).val (entOf t key hs).hash,.bool (isThere t key hs)])∧Below w.heap.size w w':=by
 cases ht:isThere t key hs
 ·have h1:=slot_neg ht
  have h2:=room_none (key:=key) (h:=hs) h.ok.n (by rw [h1];decide)
  have h3:find key hs (t.gs (roomG t key hs))=-1:=by
   rcases find_cases key hs (t.gs (roomG t key hs)) with⟨e,_⟩|⟨k,_,e,_⟩
   ·exact e
   ·omega
  have e:entOf t key hs=⟨1,0,0,0⟩:=by unfold entOf;rw [ht];rfl
  rw [e];exact entry_no T B t h.ok key hs _ _ (lastG_lt t key hs h.ok.n) (roomG_lt t key hs h.ok.n) hh h1 h3 w h.at' h.bits
 ·obtain⟨k,h1,h2,h3⟩:=there_is ht
  have e:entOf t key hs=t.gs (lastG t key hs) k:=by unfold entOf;rw [ht,h2];rfl
  rw [e];exact entry_yes ae T B t h.ok key hs _ _ k (lastG_lt t key hs h.ok.n) h1 (hit_is h3).1 hh h2 w h.at' h.bits h.errs.two
theorem room_neg{t:Tb}{key hs:Nat}(hn:okN t.n)(ht:isThere t key hs=false):find key hs (t.gs (roomG t key hs))=-1:=by
 have h2:=room_none (key:=key) (h:=hs) hn (by rw [slot_neg ht];decide)
 rcases find_cases key hs (t.gs (roomG t key hs)) with⟨e,_⟩|⟨k,_,e,_⟩
 ·exact e
 ·omega
def noneE(t:Tb)(key hs:Nat):Nat:=if isThere t key hs=true then 0 else 4
theorem Ready.replace{ae:String→Addr}{T B:Nat}{t:Tb}{L:Ln}{m:Mt}{w:World}(h:Ready ae T B t L m w)(key hs v:Nat)(hh:hs<18446744073709551616) :
  Calls Tryz.prog 47 #[spotV T B key hs (lastG t key hs) (roomG t key hs),.int .u64 v] w fun e w'=>e=.returned (errAt ae (noneE t key hs))∧TStep T B (t.replace key hs v) w w':=by
 cases ht:isThere t key hs
 ·have e1:t.replace key hs v=t:=by unfold Tb.replace;rw [slot_neg ht,if_neg (by decide)]
  have e2:noneE t key hs=4:=by unfold noneE;rw [ht];rfl
  rw [e1,e2];exact (replace_no ae T B t h.ok key hs _ _ v (lastG_lt t key hs h.ok.n) (roomG_lt t key hs h.ok.n) hh (slot_neg ht) (room_neg h.ok.n ht) w h.at' h.bits h.errs).mono fun e w' ⟨he,hb⟩=>⟨he,.of h.at' hb⟩
 ·obtain⟨k,h1,h2,h3⟩:=there_is ht
  have e2:noneE t key hs=0:=by unfold noneE;rw [ht];rfl
  rw [replace_at h2,e2];exact replace_yes ae T B t h.ok key hs _ _ k v (lastG_lt t key hs h.ok.n) h1 (hit_is h3).1 hh h2 w h.at' h.bits h.errs.two
theorem Ready.remove{ae:String→Addr}{T B:Nat}{t:Tb}{L:Ln}{m:Mt}{w:World}(h:Ready ae T B t L m w)(key hs:Nat)(hh:hs<18446744073709551616) :
  Calls Tryz.prog 192 #[spotV T B key hs (lastG t key hs) (roomG t key hs)] w fun e w'=>e=.returned (errAt ae (noneE t key hs))∧TStep T B (t.remove key hs) w w':=by
 cases ht:isThere t key hs
 ·have e1:t.remove key hs=t:=by unfold Tb.remove;rw [slot_neg ht,if_neg (by decide)]
  have e2:noneE t key hs=4:=by unfold noneE;rw [ht];rfl
  rw [e1,e2];exact (remove_no ae T B t h.ok key hs _ _ (lastG_lt t key hs h.ok.n) (roomG_lt t key hs h.ok.n) hh (slot_neg ht) (room_neg h.ok.n ht) w h.at' h.bits h.errs).mono fun e w' ⟨he,hb⟩=>⟨he,.of h.at' hb⟩
 ·obtain⟨k,h1,h2,h3⟩:=there_is ht
  have e2:noneE t key hs=0:=by unfold noneE;rw [ht];rfl
  rw [remove_at h2,e2];exact remove_yes ae T B t h.ok key hs _ _ k (lastG_lt t key hs h.ok.n) h1 (hit_is h3).1 hh h2 w h.at' h.bits h.errs.two
theorem Ready.place{ae:String→Addr}{T B:Nat}{t:Tb}{L:Ln}{m:Mt}{w:World}(h:Ready ae T B t L m w)(key hs v:Nat)(hh:hs<18446744073709551616)(ht:isThere t key hs=false) :
  Calls Tryz.prog 48 #[spotV T B key hs (lastG t key hs) (roomG t key hs),group.entV key v hs] w fun e w'=>e=.returned (errAt ae (roomE t key hs))∧TStep T B (t.place key hs v) w w':=by
 by_cases he:roomE t key hs=0
 ·obtain⟨h1,k,h2,h3,h4⟩:=room_is he
  rw [place_at he h3,he];exact place_ok ae T B t h.ok key hs _ _ v k (lastG_lt t key hs h.ok.n) (roomG_lt t key hs h.ok.n) hh (slot_neg ht) (room_neg h.ok.n ht) (by omega) h2 h3 h4 w h.at' h.bits h.errs
 ·have e2:roomE t key hs=2:=by
   revert he;unfold roomE;split
   ·intro _;rfl
   ·split
    ·intro _;rfl
    ·intro he;exact absurd rfl he
  have hl:t.left<1∨least (t.gs (roomG t key hs))<0:=by
   revert he;unfold roomE;split
   ·intro _;exact .inl ‹_›
   ·split
    ·intro _;exact .inr ‹_›
    ·intro he;exact absurd rfl he
  rw [place_no he,e2];exact (place_full ae T B t h.ok key hs _ _ v (lastG_lt t key hs h.ok.n) (roomG_lt t key hs h.ok.n) hh (slot_neg ht) (room_neg h.ok.n ht) hl w h.at' h.bits h.errs).mono fun e w' ⟨he,hb⟩=>⟨he,.of h.at' hb⟩
set_option maxRecDepth 20000 in
theorem find_tab{ae:String→Addr}{T B:Nat}{t:Tb}{L:Ln}{m:Mt}{w:World}(h:Ready ae T B t L m w)(key hs:Nat)(hk:key<18446744073709551616)(hh:hs<18446744073709551616) :
  Calls Tryz.prog 212 #[.pointer (some ⟨T,0,none⟩),.agg #[.pointer L.p],.int .u64 key,.int .u64 hs] w fun e w'=>e=.returned (.tuple #[group.entV (entOf t key hs).key (entOf t key hs).val (entOf t key hs).hash,.bool (isThere t key hs)])∧LnStep [] L (L.see m (looks t key hs)) w w':=by
 have HH:=Lib.hid h;have hd:=h.ln.lt;have hb2:=two_new w (.cells #[.pointer L.p] 52) (.cells #[.int .u64 0,.int .u64 0,.int .u64 0] 44);have c1:=(h.below hb2).seek key hs hk hh;have hV:=EBox.second 0 0 0 w (.cells #[.pointer L.p] 52);have c2:=fun W (hs':LnStep [] L (L.see m (looks t key hs)) ((w.alloc (.cells #[.pointer L.p] 52)).alloc (.cells #[.int .u64 0,.int .u64 0,.int .u64 0] 44)) W)=>((HH.out.below hb2).look hs').entry key hs hh
 clear h;generalize entOf t key hs=en at *
 generalize isThere t key hs=it at *
 go_enter Tryz.func212,Tryz.ntmps212
 go_wp2_with (first
  | (go_at_call 46;refine c1.mono ?_;rintro e w1 ⟨rfl,hs1⟩)
  | (go_at_call 102;refine (c2 _ hs1).mono ?_;rintro e w2 ⟨rfl,hb3⟩;have hV2:=(hV.past hs1.past (by simpa using HH.out.ln.nd (by omega))).keep hb3;have y0:=hV2.c0;have y1:=hV2.c1;have y2:=hV2.c2;have y3:=hV2.fz))
 have hS:=((LnStep.of [] HH.out.ln hb2).trans hs1).below hb3;exact bodyPost_ret (v:=.tuple #[group.entV en.key en.val en.hash,.bool it]) (by simp [results,Tryz.results212,go_sem,y0,y1,y2]) rfl ⟨rfl,((hS.newset hd (by simp) _).newset hd (by simp) _).newset hd (by simp) _⟩
abbrev set3(X k v h:Nat)(w:World):World:=((w.setCell ⟨X,0,none⟩ (.int .u64 (k:Nat))).setCell ⟨X,1,none⟩ (.int .u64 (v:Nat))).setCell ⟨X,2,none⟩ (.int .u64 (h:Nat))
theorem set3_other{X k v h b j:Nat}{w:World}(hb:b≠X):(set3 X k v h w).cell? ⟨b,j,none⟩=w.cell? ⟨b,j,none⟩:=by
 unfold set3;rw [World.cell?_setCell_other _ _ _ _ (off_b (Ne.symm hb)),World.cell?_setCell_other _ _ _ _ (off_b (Ne.symm hb)),World.cell?_setCell_other _ _ _ _ (off_b (Ne.symm hb))]
def DelD(W:World)(A:World→Prop)(X k v h:Nat):Nat→World→Prop
 | 0=>fun w'=>∃q,w'=W.drewN q
 | 1=>A
 | _=>fun w'=>∃w'',A w''∧w'=set3 X k v h w''
theorem DelD.cell{W:World}{A:World→Prop}{X k v h b j:Nat}{u:Value}(hb:b≠X)(hc:W.cell? ⟨b,j,none⟩=some u)(hA:∀w',A w'→w'.cell? ⟨b,j,none⟩=some u)(q:stage.Un (DelD W A X k v h)):q.W.cell? ⟨b,j,none⟩=some u:=by
 obtain⟨i,w',h'⟩:=q
 match i,h' with
 | 0,⟨q,e⟩=>show w'.cell? _=_;rw [e];exact hc
 | 1,h'=>exact hA _ h'
 | i+2,⟨w'',ha,e⟩=>show w'.cell? _=_;rw [e,set3_other hb];exact hA _ ha
def SetD(W:World)(X k v h:Nat):Nat→World→Prop
 | 0=>fun w'=>∃q,w'=W.drewN q
 | _=>fun w'=>∃q,w'=set3 X k v h (W.drewN q)
theorem SetD.cell{W:World}{X k v h b j:Nat}{u:Value}(hb:b≠X)(hc:W.cell? ⟨b,j,none⟩=some u)(q:stage.Un (SetD W X k v h)):q.W.cell? ⟨b,j,none⟩=some u:=by
 obtain⟨i,w',h'⟩:=q
 match i,h' with
 | 0,⟨q,e⟩=>show w'.cell? _=_;rw [e];exact hc
 | i+1,⟨q,e⟩=>show w'.cell? _=_;rw [e,set3_other hb];exact hc
theorem TL.newset{T B:Nat}{t:Tb}{L:Ln}{m:Mt}{w w':World}(h:TL T B t L m w w')(hd:∀b∈L.d,b<w.heap.size)(hT:T<w.heap.size)(hB:B<w.heap.size){p:Addr}(hp:w.heap.size≤p.block)(u:Value):TL T B t L m w (w'.setCell p u):=by
 have k:Past [p.block] w' (w'.setCell p u):=(Past.refl [p.block] w').store (.inl (by simp)) u;exact⟨h.at'.past k (by simp;omega) (by simp;omega),h.ln.newset hd hp u⟩
set_option maxRecDepth 20000 in
theorem delete_tab{ae:String→Addr}{T B:Nat}{t:Tb}{L:Ln}{m:Mt}{w:World}(h:Ready ae T B t L m w)(key hs:Nat)(hk:key<18446744073709551616)(hh:hs<18446744073709551616) :
  Calls Tryz.prog 185 #[.pointer (some ⟨T,0,none⟩),.agg #[.pointer L.p],.int .u64 key,.int .u64 hs] w fun e w'=>e=.returned (.tuple #[group.entV (entOf t key hs).key (entOf t key hs).val (entOf t key hs).hash,.bool (isThere t key hs)])∧TL T B (t.remove key hs) L (L.see m (looks t key hs)) w w':=by
 have HH:=Lib.hid h;have hd:=h.ln.lt;have hb2:=two_new w (.cells #[.pointer L.p] 52) (.cells #[.int .u64 0,.int .u64 0,.int .u64 0] 44);have c1:=(h.below hb2).seek key hs hk hh;have hV:=EBox.second 0 0 0 w (.cells #[.pointer L.p] 52);have hR:=fun W (hs':LnStep [] L (L.see m (looks t key hs)) ((w.alloc (.cells #[.pointer L.p] 52)).alloc (.cells #[.int .u64 0,.int .u64 0,.int .u64 0] 44)) W)=>(HH.out.below hb2).look hs'
 have HR:=Lib.hid hR;have hT0:TL T B t L m w ((w.alloc (.cells #[.pointer L.p] 52)).alloc (.cells #[.int .u64 0,.int .u64 0,.int .u64 0] 44)):=.of h.at' h.ln hb2;have hA:=h.apart;have hTlt:=h.at'.lt;have hBlt:=h.at'.lb;have cE:=fun W (h':Ready ae T B t L (L.see m (looks t key hs)) W)=>h'.entry key hs hh
 have HM:=Lib.hid (fun W (h':Ready ae T B t L (L.see m (looks t key hs)) W)=>h'.remove key hs hh);clear h hR;generalize lastG t key hs=lg at *
 generalize roomG t key hs=rg at *
 generalize entOf t key hs=en at *
 generalize hm:L.see m (looks t key hs)=m' at *
 have e4:isThere t key hs=false→t.remove key hs=t:=fun hit=>by unfold Tb.remove;rw [slot_neg hit,if_neg (by decide)]
 have e5:isThere t key hs=true→noneE t key hs=0:=fun hit=>by unfold noneE;rw [hit];rfl
 generalize t.remove key hs=t' at *
 generalize noneE t key hs=ne at *
 generalize isThere t key hs=it at *
 have E4:=Lib.hid e4;have E5:=Lib.hid e5;clear e4 e5
 go_enter Tryz.func185,Tryz.ntmps185
 go_wp2_with (first
  | (go_at_call 46;refine c1.mono ?_;rintro e w1 ⟨rfl,hs1⟩;have hb3:=new_block w1 (.cells #[.pointer (some ⟨T,0,none⟩),.int .u64 (key:Nat),.int .u64 (hs:Nat),.pointer (some ⟨B,lg*25,none⟩),.pointer (some ⟨B,rg*25,none⟩)] 106);have hSB:=SBox.new T B key hs lg rg w1;have hV1:=(hV.past hs1.past (by simpa using HH.out.ln.nd (by omega))).keep hb3;have hL1:=(hT0.trans (TL.look hT0.at' hA hs1)).below hb3;have z1:=hs1.past.size;rw [World.size_alloc,World.size_alloc] at z1;have hR1:=(HR.out _ hs1).below hb3)
  | (go_at_call 102;refine (cE _ hR1).mono ?_;rintro e w2 ⟨rfl,hb4⟩;have hEB:=EBox.new en.key en.val en.hash w2;have hb5:=under.below_step hb4 (new_block w2 (.cells #[.int .u64 (en.key:Nat),.int .u64 (en.val:Nat),.int .u64 (en.hash:Nat)] 44));have hR2:=hR1.below hb5;have hV2:=hV1.keep hb5;have hSB2:=hSB.keep hb5;have hL2:=hL1.below hb5;have z2:=hb4.size))
 generalize w2.alloc (.cells #[.int .u64 (en.key:Nat),.int .u64 (en.val:Nat),.int .u64 (en.hash:Nat)] 44)=W at *
 have z3:w.heap.size+2≤w1.heap.size:=z1;have z4:w1.heap.size+1≤w2.heap.size:=by rw [World.size_alloc] at z2;exact z2
 generalize w1.heap.size=X1 at *
 generalize w2.heap.size=X2 at *
 clear c1 hs1 hb3 hR1 cE hb4 hb5 hL1 hV1 hSB HR z1 z2 hT0 hV hb2;have n1:X1≠w.heap.size+1:=by omega
 have n2:X2≠w.heap.size+1:=by omega
 have m1:X1∉[T,B]:=by simp;omega
 have m2:X2∉[T,B]:=by simp;omega
 have mr:w.heap.size+1∉[T,B]:=by simp;omega
 cases it
 ·obtain rfl:=E4.out rfl
  clear E4 E5 HM;have q0:=SetD.cell (k:=en.key) (v:=en.val) (h:=en.hash) n2 hEB.c0;have q1:=SetD.cell (k:=en.key) (v:=en.val) (h:=en.hash) n2 hEB.c1;have q2:=SetD.cell (k:=en.key) (v:=en.val) (h:=en.hash) n2 hEB.c2
  haveI : Nonempty (stage.Un (SetD W (w.heap.size+1) en.key en.val en.hash)):=⟨⟨0,W,0,rfl⟩⟩
  refine (wpIn_wide (n:=3)).1 ?_;refine move.region (D:=SetD W (w.heap.size+1) en.key en.val en.hash) 8 [false,false,false,false,false,false,false,true] (by kernel_rfl) (by kernel_rfl) (by kernel_rfl) ⟨1,rfl⟩ ?_;simp only [List.take_succ_cons,List.take_zero,List.drop_succ_cons,List.drop_zero]
  iterate 7
   refine move.pure_step (fun _ _ _=>trivial) (fun K hK=>?_);go_simp;refine hK _ ?_;clear hK K
  refine move.move_step (v:=undef) (fun _ _ _=>trivial) (by kernel_rfl) (fun wd hd9=>?_) (fun K hK=>?_)
  ·obtain⟨q,rfl⟩:=hd9
   have k0:=hV2.c0;have k1:=hV2.c1;have k2:=hV2.c2;have kf:=hV2.fz;go_simp;exact⟨q,rfl⟩
  refine hK _ ?_;clear hK K;refine move.nil_step ?_;rintro w10 ⟨q,rfl⟩;have k0:=hV2.c0;have k1:=hV2.c1;have k2:=hV2.c2;clear q0 q1 q2 this;gi_wp2;go_wp2;have hL3:=hL2.below (below_drewN' W q);refine bodyPost_ret (v:=.tuple #[group.entV en.key en.val en.hash,.bool false]) (by simp [results,Tryz.results185,go_sem,k0,k1,k2]) rfl ⟨rfl, ?_⟩;exact (((hL3.newset hd hTlt hBlt (by simp) _).newset hd hTlt hBlt (by simp) _).newset hd hTlt hBlt (by simp) _)
 ·obtain rfl:=E5.out rfl
  clear E4 E5;have hRem:=fun W' (hb:Below W.heap.size W W')=>HM.out W' (hR2.below hb)
  rw [show errAt ae 0=.nilIface from rfl] at hRem;clear HM;have q0:=DelD.cell (k:=en.key) (v:=en.val) (h:=en.hash) (A:=TStep T B t' W) n2 hEB.c0 fun w' hs=>hs.past.cell hEB.c0 m2
  have q1:=DelD.cell (k:=en.key) (v:=en.val) (h:=en.hash) (A:=TStep T B t' W) n2 hEB.c1 fun w' hs=>hs.past.cell hEB.c1 m2
  have q2:=DelD.cell (k:=en.key) (v:=en.val) (h:=en.hash) (A:=TStep T B t' W) n2 hEB.c2 fun w' hs=>hs.past.cell hEB.c2 m2
  have r0:=DelD.cell (k:=en.key) (v:=en.val) (h:=en.hash) (A:=TStep T B t' W) n1 hSB2.c0 fun w' hs=>hs.past.cell hSB2.c0 m1
  have r1:=DelD.cell (k:=en.key) (v:=en.val) (h:=en.hash) (A:=TStep T B t' W) n1 hSB2.c1 fun w' hs=>hs.past.cell hSB2.c1 m1
  have r2:=DelD.cell (k:=en.key) (v:=en.val) (h:=en.hash) (A:=TStep T B t' W) n1 hSB2.c2 fun w' hs=>hs.past.cell hSB2.c2 m1
  have r3:=DelD.cell (k:=en.key) (v:=en.val) (h:=en.hash) (A:=TStep T B t' W) n1 hSB2.c3 fun w' hs=>hs.past.cell hSB2.c3 m1
  have r4:=DelD.cell (k:=en.key) (v:=en.val) (h:=en.hash) (A:=TStep T B t' W) n1 hSB2.c4 fun w' hs=>hs.past.cell hSB2.c4 m1
  haveI : Nonempty (stage.Un (DelD W (TStep T B t' W) (w.heap.size+1) en.key en.val en.hash)):=⟨⟨0,W,0,rfl⟩⟩
  refine (wpIn_wide (n:=3)).1 ?_;refine move.region (D:=DelD W (TStep T B t' W) (w.heap.size+1) en.key en.val en.hash) 8 [false,false,false,false,true,false,false,true] (by kernel_rfl) (by kernel_rfl) (by kernel_rfl) ⟨1,rfl⟩ ?_;simp only [List.take_succ_cons,List.take_zero,List.drop_succ_cons,List.drop_zero]
  iterate 4
   refine move.pure_step (fun _ _ _=>trivial) (fun K hK=>?_);go_simp;refine hK _ ?_;clear hK K
  refine move.move_step (v:=.nilIface) (fun _ _ _=>trivial) (by kernel_rfl) (fun wd hd9=>?_) (fun K hK=>?_)
  ·obtain⟨q,rfl⟩:=hd9
   go_simp;refine callsIn_wide.2 ((hRem (W.drewN q) (below_drewN' W q)).mono ?_);rintro e' w' ⟨rfl,hs⟩;exact⟨rfl,(TStep.of hR2.at' (below_drewN' W q)).trans hs⟩
  refine hK _ ?_;clear hK K
  iterate 2
   refine move.pure_step (fun _ _ _=>trivial) (fun K hK=>?_);go_simp;refine hK _ ?_;clear hK K
  refine move.move_step (v:=undef) (fun _ _ _=>trivial) (by kernel_rfl) (fun wd hd9=>?_) (fun K hK=>?_)
  ·have hS9:TStep T B t' W wd:=hd9
   have hV3:=hV2.past hS9.past mr;have k0:=hV3.c0;have k1:=hV3.c1;have k2:=hV3.c2;have kf:=hV3.fz;clear hd9;go_simp;exact⟨wd,hS9,rfl⟩
  refine hK _ ?_;clear hK K;refine move.nil_step ?_;rintro w10 ⟨w9,hS9,rfl⟩;have hV3:=hV2.past hS9.past mr;have k0:=hV3.c0;have k1:=hV3.c1;have k2:=hV3.c2;clear q0 q1 q2 r0 r1 r2 r3 r4 this;gi_wp2;go_wp2;have hL3:=hL2.step hA hS9;refine bodyPost_ret (v:=.tuple #[group.entV en.key en.val en.hash,.bool true]) (by simp [results,Tryz.results185,go_sem,k0,k1,k2]) rfl ⟨rfl, ?_⟩;exact (((hL3.newset hd hTlt hBlt (by simp) _).newset hd hTlt hBlt (by simp) _).newset hd hTlt hBlt (by simp) _)
end table
end Go.Proofs.YtdplhgpeggcmdaaGreatDoor
