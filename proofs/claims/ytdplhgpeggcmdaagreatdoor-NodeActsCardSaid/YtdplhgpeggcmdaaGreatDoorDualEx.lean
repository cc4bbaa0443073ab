/- DualEx: facts and laws for the walks. -/
import Derived.Test.YtdplhgpeggcmdaaGreatDoorDualMk
namespace Go.Proofs.YtdplhgpeggcmdaaGreatDoor
set_option linter.unusedSimpArgs false
set_option linter.unusedVariables false
namespace dual
open Go.ChangeShapes Go.WideShapes Go.ChangeAt Go.RowKit Go.Shelf swar under trap meter group probe lens tail call table
attribute [local go_sem] Oper.semAt_some stage.pureUpon move.stepUpon
structure Cas where
 old:Int
 new:Int
 depth:Int
 sh:Option Addr
 lh:Nat
 ch:Nat
 sk:Option Addr
 lk:Nat
 ck:Nat
section
variable {X:Nat} {c:Cas} {W W':World}
end
end dual
namespace dual
open Go.ChangeShapes Go.WideShapes Go.ChangeAt Go.RowKit Go.Shelf swar under trap meter group probe lens tail call table
structure XS where
 n:Nat
 al:Option Nat
 st:Bool
structure XD(w:World)(d:List Nat)(G:Nat→World→Prop)(k v h:Nat)(s:XS)(W:World):Prop where
 past:Past d w W
 g:G s.n W
 box:∀b,s.al=some b→w.heap.size≤b∧∃x y z,EBox b x y z W∧(s.st=true→x=k∧y=v∧z=h)
structure XG(w:World)(d:List Nat)(G:Nat→World→Prop):Prop where
 lt:∀b∈d,b<w.heap.size
 read:∀n W W',G n W→Below W.heap.size W W'→G n W'
 set:∀n W b i u,G n W→w.heap.size≤b→G n (W.setCell ⟨b,i,none⟩ u)
section
variable {w:World} {d:List Nat} {G:Nat→World→Prop} {k v h:Nat} {s:XS} {W W':World}
theorem XD.start(hg:G 0 W)(hp:Past d w W):XD w d G k v h ⟨0,none,false⟩ W:=⟨hp,hg,fun b e=>by cases e⟩
theorem XD.read(hG:XG w d G)(hd:XD w d G k v h s W)(hb:Below W.heap.size W W'):XD w d G k v h s W':=
 ⟨hd.past.trans (Past.of hb),hG.read _ _ _ hd.g hb,fun b e=>by obtain⟨h1,x,y,z,h2,h3⟩:=hd.box b e;exact⟨h1,x,y,z,h2.keep hb,h3⟩⟩
theorem XD.next(hG:XG w d G)(hd:XD w d G k v h s W)(hg:G (s.n+1) W')(hp:Past d W W'):XD w d G k v h ⟨s.n+1,s.al,s.st⟩ W':=
 ⟨hd.past.trans hp,hg,fun b e=>by
  obtain⟨h1,x,y,z,h2,h3⟩:=hd.box b e
  exact⟨h1,x,y,z,h2.past hp (fun e=>by have:=hG.lt b e;omega),h3⟩⟩
theorem XD.put(hG:XG w d G)(hd:XD w d G k v h s W):XD w d G k v h ⟨s.n,some W.heap.size,false⟩ (W.alloc (.cells #[.int .u64 0,.int .u64 0,.int .u64 0] 44)):=
 ⟨hd.past.trans (Past.of (new_block W _)),hG.read _ _ _ hd.g (new_block W _),fun b e=>by cases e;exact⟨hd.past.size,0,0,0,EBox.new 0 0 0 W,fun e=>by cases e⟩⟩
theorem XD.set{b:Nat}(hG:XG w d G)(hd:XD w d G k v h s W)(ha:s.al=some b):XD w d G k v h ⟨s.n,some b,true⟩ (set3 b k v h W):=by
 obtain⟨h1,x,y,z,h2,h3⟩:=hd.box b ha
 have past_new:∀{W1:World} (i:Nat) (u:Value),Past d w W1→Past d w (W1.setCell ⟨b,i,none⟩ u):=fun {W1} i u hp =>
  ⟨hp.os,hp.tape,hp.output,by simpa [World.setCell] using hp.size,fun k hk hn=>(Below.heap_setCell _ _ _ _ (by show k≠b;omega)).trans (hp.block k hk hn)⟩
 exact⟨past_new 2 _ (past_new 1 _ (past_new 0 _ hd.past)),hG.set _ _ _ _ _ (hG.set _ _ _ _ _ (hG.set _ _ _ _ _ hd.g h1) h1) h1,fun b' e=>by cases e;exact⟨h1,k,v,h,h2.set _ _ _,fun _=>⟨rfl,rfl,rfl⟩⟩⟩
end
def XM(u val:Value)(ic ia ib k:Nat)(s:XS)(v:Value)(s':XS):Prop:=
 if k=ia then ∃b,v=.pointer (some ⟨b,0,none⟩)∧s'=⟨s.n,some b,false⟩ else if k=ib then v=undef∧s'=⟨s.n,s.al,true⟩ else if k=ic then (s.n=0→v=val)∧s'=⟨s.n+1,s.al,s.st⟩ else v=u∧s'=s
theorem XM.some(u val:Value)(ic ia ib k:Nat)(s:XS):∃v s',XM u val ic ia ib k s v s':=by
 unfold XM
 split
 ·exact⟨_,_,0,rfl,rfl⟩
 ·split
  ·exact⟨_,_,rfl,rfl⟩
  ·split
   ·exact⟨val,_,fun _=>rfl,rfl⟩
   ·exact⟨_,_,rfl,rfl⟩
theorem XM.free(u val:Value)(ic ia ib i:Nat)(h1:i≠ia)(h2:i≠ib)(s:XS)(x:Value)(sj:XS)(v:Value)(s2:XS)(ha:XM u val ic ia ib ia s x sj)(hb:XM u val ic ia ib i sj v s2):∃s',XM u val ic ia ib i s v s'∧XM u val ic ia ib ia s' x s2:=by
 unfold XM at *
 rw [if_pos rfl] at ha;rw [if_neg h1,if_neg h2] at hb;obtain⟨b,rfl,rfl⟩:=ha
 by_cases h3:i=ic
 ·rw [if_pos h3] at hb
  obtain⟨hv,rfl⟩:=hb;refine⟨⟨s.n+1,s.al,s.st⟩, ?_, ?_⟩
  ·rw [if_neg h1,if_neg h2,if_pos h3];exact⟨hv,rfl⟩
  ·rw [if_pos rfl];exact⟨b,rfl,rfl⟩
 ·rw [if_neg h3] at hb
  obtain⟨rfl,rfl⟩:=hb;refine⟨s, ?_, ?_⟩
  ·rw [if_neg h1,if_neg h2,if_neg h3];exact⟨rfl,rfl⟩
  ·rw [if_pos rfl];exact⟨b,rfl,rfl⟩
end dual
namespace dual
open Go.ChangeShapes Go.WideShapes Go.ChangeAt Go.RowKit Go.Shelf swar under trap meter group probe lens tail call table evac
attribute [local go_sem] Oper.semAt_some stage.pureUpon move.stepUpon
theorem sl_some(x:Addr)(n c:Nat)(w:World):(binOp BinOp.eql 132 (.slice (some x) n c) (.slice none 0 0)).run Tryz.prog w=.ok (.bool false) w:=by
 have h:∀d:Nat,(Op.equalIn (d+1) 132 (.slice (some x) n c) (.slice none 0 0)).run Tryz.prog w=.ok false w:=fun d=>by
  simp [Op.equalIn,run_underlying Tryz.underlying132]
 simp [binOp,go_sem,Op.equal]
 rw [show Op.maxDepth=9999+1 from rfl,h 9999];rfl
section
variable {a:String→Addr} {w0:World} {Y:Lay} {D n1 d:Nat} {dp:Int} {q:Nat} {tk:Bool} {t:Nat→Tb} {fp:List Nat} {w W W':World}
theorem DAt.state (h : DAt a w0 Y D n1 d dp q tk t fp w) : ∀ W, Below w.heap.size w W → W.cell? ⟨2, 0, none⟩ = some (errs.errV (a "ambler/api.ErrState")) := fun W hb => (h.re.base.six.below (under.below_step h.re.bel hb)).two.state
set_option maxRecDepth 20000 in
theorem DAt.take_yes(h:DAt a w0 Y D n1 d dp q false t fp w)(hq:q=Y.n 0+(Y.N-1)*n1) :
  Calls Tryz.prog 69 #[.pointer (some ⟨D,0,none⟩)] w fun e w'=>∃GU cU,e=.returned (.tuple #[.slice (some ⟨GU,0,none⟩) (Y.N-1) cU,.nilIface])∧(∀j,1≤j→j<Y.N→w'.cell? ⟨GU,j-1,none⟩=some (.pointer (some ⟨Y.T j,0,none⟩)))∧GU∈fp∧GU∉Y.tall∧DAt a w0 Y D n1 d dp q true t fp w'∧Past fp w w':=by
 have cL:=h.left;rw [hq,Nat.sub_self] at cL;have hs:=h.small
 rcases h with⟨h1,_⟩|⟨h1,h2,Q,GT,cT,GU,cU,V,h,rfl⟩
 ·omega
 ·have H:=Lib.hid h
  have h6:∀W,Below w.heap.size w W→W.cell? ⟨D,6,none⟩=some (.slice (some ⟨GU,0,none⟩) (Y.N-1) cU)∧∀i,W.frozen? ⟨D,i,none⟩=false:=fun W hb=>by
   obtain⟨sB,hr⟩:=(h.read hb).row;exact⟨hr.c6,hr.fz⟩
  have H6:=Lib.hid h6;clear h hq h6;obtain⟨nb,hnb⟩:∃nb,Y.N-1=nb:=⟨_,rfl⟩;rw [hnb] at H6;have HN:=Lib.hid hnb;have hss:=sl_some;clear hnb
  go_enter Tryz.func69,Tryz.ntmps69
  go_wp2_with (go_at_call 81;refine cL.mono ?_;rintro e w1 ⟨rfl,hb1⟩;have y6:=(H6.out _ hb1).1;have yf:=(H6.out _ hb1).2)
  go_ret2
  have hM:=H.out.read hb1;have hp:Past [D] w1 (w1.setCell ⟨D,6,none⟩ (.slice none 0 0)):=(Past.refl _ _).store (.inl (by simp)) _;obtain⟨sB,hr⟩:=hM.row;refine⟨GU,cU,by rw [HN.out];rfl,fun j h3 hj=>hp.cell (hM.gu j h3 hj) (by simpa using hM.nGU.2.1),by simp [fpM],hM.nGU.1,.inr ⟨h1,h2,Q,GT,cT,GU,cU,V,⟨hM.pl,⟨sB,hr.set6 _⟩,fun j hj=>hp.cell (hM.gt j hj) (by simpa using hM.nGT.2.1),fun j h3 hj=>hp.cell (hM.gu j h3 hj) (by simpa using hM.nGU.2.1),hM.re.past hp (fun b hb=>?_),hM.ev.past hp (by simpa using hM.nV.2),hM.hV,hM.nV,hM.nGT,hM.nGU⟩,rfl⟩,(Past.of hb1).trans (hp.mono (by simp [fpM]))⟩;obtain rfl:b=D:=by simpa using hb
  exact⟨hM.pl.hD,hM.pl.nD⟩
end
theorem lay1_start{a:String→Addr}{w w1:World}(hw:Bq a w){T B n:Nat}{t:Nat→Tb}(hn:(t 0).n=n)(ok:(t 0).Ok)(h1:TAt T B (t 0) w1)(hb1:Below w.heap.size w w1)(k1:w.heap.size≤T)(k2:w.heap.size≤B):Real a w (lay1 T B n) t w1:=by
 refine⟨fun i hi=>?_,fun i hi=>?_,fun i hi=>?_,fun i j hi hj hne=>?_,fun b hb=>?_,hb1,hw⟩
 ·obtain rfl:i=0:=by have : i<1:=hi;omega
  exact h1
 ·obtain rfl:i=0:=by have : i<1:=hi;omega
  exact ok
 ·obtain rfl:i=0:=by have : i<1:=hi;omega
  exact hn
 ·have : i<1:=hi
  have : j<1:=hj;omega
 ·obtain⟨i,hi,hb⟩:=List.mem_flatMap.1 hb
  have hb':b=T∨b=B:=by simpa [lay1] using hb
  rcases hb' with rfl|rfl
  ·exact k1
  ·exact k2
theorem lay1_tall{T B n b:Nat}(h:b∈(lay1 T B n).tall):b=T∨b=B:=by
 obtain⟨i,hi,hb⟩:=List.mem_flatMap.1 h
 simpa [lay1] using hb
end dual
end Go.Proofs.YtdplhgpeggcmdaaGreatDoor
