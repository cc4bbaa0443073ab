/- DualLA: facts and laws for the walks. -/
import Derived.Test.YtdplhgpeggcmdaaGreatDoorEvDuRf
import Derived.Test.YtdplhgpeggcmdaaGreatDoorDualFc
namespace Go.Proofs.YtdplhgpeggcmdaaGreatDoor
set_option linter.unusedSimpArgs false
set_option linter.unusedVariables false
namespace movex
open Go Go.RowKit
theorem step_append{F:Fence}{n:Nat}{P:Program}{C:Value→World→Prop}{o:Oper}{a:Act}(w:World)(s x:Operand)(t:TypeId)
  (ho:o.op=.call { callee:=.builtin .append,args:=#[s,x],argTypes:=#[t,t] })
  (base:Nat)(e:TypeId)(i:TypeInfo)(z:Value)(size bytes:Nat)(ht:P.underlying t=some (.slice e))(hi:P.info? e=some i)(hz:i.zero=some z)
  (hsize:i.size=size)(hby:i.bytes=bytes)(hzs:z.cells.size=size)(hsz:0<size)
  (v:Value)(m0:Nat)(xs:List Value)(hs:a.eval s=v)(hown:w.ownsRow base e size v m0 xs)
  (ad:Addr)(m c:Nat)(news:List Value)(hx:a.eval x=.slice (some ad) m c)(hl:news.length=m*size)(hnews:∀j u,news[j]?=some u→w.cell? (ad.add j)=some u)(h1:∀u∈news,u.oneCell'=true)
  (hm:0<m)(h63:m0+m≤maxLen)(hbytes:(m0+m)*bytes≤140737488355328)(hbase:base≤w.heap.size)
  (h:∀g cap w',w'.ownsRow base e size (.slice (some ⟨g,0,none⟩) (m0+m) cap) (m0+m) (xs++news)→w.grownBy w' v.ownBlock→(v.ownBlock=some g∨g=w.heap.size)→C (.slice (some ⟨g,0,none⟩) (m0+m) cap) w'):stepUpon F n P C ((execOp a.eval o).run P w):=by
 obtain⟨g,cap,w',hr,h2,h3,h4,h5⟩:=run_append_lies (P:=P) w t o.type base e i z size bytes ht hi hz hsize hby hzs hsz v m0 xs hown ad m c news hl hnews h1 hm h63 hbytes hbase _ rfl;unfold execOp;simp only [ho,resolve,invoke,builtin,Sem.run_bind,Sem.run_pure,Result.andThen_ok,List.map_toArray,List.map_cons,List.map_nil,hs,hx,hr];exact h g cap w' h2 h3 h4
end movex
namespace dual
open Go.ChangeShapes Go.WideShapes Go.ChangeAt Go.RowKit Go.Shelf swar under trap meter group probe lens tail call table evac
attribute [local go_sem] Oper.semAt_some stage.pureUpon movex.stepUpon
theorem only{p:Nat→Prop}{x:Nat}(h:p x):∀b∈[x],p b:=fun b hb=>by
 obtain rfl:b=x:=by simpa using hb
 exact h
theorem szRT:(Tryz.prog.info? 129).map (·.size)=some 2:=by kernel_rfl
theorem rt_some(x:Addr)(w:World):(Op.equalIn 10000 72 (.pointer (some x)) (.pointer none)).run Tryz.prog w=.ok false w:=by
 obtain⟨j,hj,_⟩:=Option.map_eq_some_iff.1 szRT
 have h:∀d:Nat,(Op.equalIn (d+1) 72 (.pointer (some x)) (.pointer none)).run Tryz.prog w=.ok false w:=fun d=>by
  simp [Op.equalIn,run_underlying Tryz.underlying72,sizeOf,typeInfo,hj,sameAddr]
 exact h 9999
theorem mt_list{o:Option Nat}{b:Nat}(hb:b∈o.toList):o=some b:=by cases o with
 | none=>cases hb
 | some x=>simp at hb;rw [hb]
theorem one_at{i:Nat}{u v:Value}(h:[v][i]?=some u):i=0∧v=u:=by
 cases i with
 | zero=>simpa using h
 | succ i=>simp at h
theorem infoTR:(Tryz.prog.info? 72).map (fun i=>(i.zero,i.size,i.bytes))=some (some (.pointer none),1,8):=by kernel_rfl
abbrev lyD(T B:Nat→Nat)(F:Nat→Rf)(n:Nat→Nat)(j:Nat):Lay:=⟨j+1,T,B,F,n⟩
def kD(k0:Nat):Nat→Nat:=fun i=>if i=0 then k0 else 0
section
variable {w0 w:World} {T B n:Nat→Nat} {F:Nat→Rf} {t:Nat→Tb} {k:Nat→Nat} {k0 j n1:Nat} {W W':World}
theorem Wn.add{f:Rf}(h:Wn w0 (lyD T B F n j) t (kD k0) W)(hb:Below W.heap.size W W')(hn:n (j+1)=n1)(ht:t (j+1)=Tb.new n1)(ok:(Tb.new n1).Ok)(hf:WAt f (Tb.new n1) 0 W')(hnew:∀b,b∈f.d n1∨b=f.G→W.heap.size≤b):Wn w0 (lyD T B (up F (j+1) f) n (j+1)) t (kD k0) W'∧(∀i,i≤j→(lyD T B (up F (j+1) f) n (j+1)).rb i=(lyD T B F n j).rb i)∧∀b∈(lyD T B (up F (j+1) f) n (j+1)).rb (j+1),W.heap.size≤b:=by
 have e1:∀i,i≤j→(lyD T B (up F (j+1) f) n (j+1)).rb i=(lyD T B F n j).rb i:=fun i hi=>by
  show (up F (j+1) f i).G::(up F (j+1) f i).d (n i)=_;rw [up_ne _ _ (by omega)];rfl
 have e2:∀b∈(lyD T B (up F (j+1) f) n (j+1)).rb (j+1),W.heap.size≤b:=fun b hb'=>by
  have hb':b∈(up F (j+1) f (j+1)).G::(up F (j+1) f (j+1)).d (n (j+1)):=hb';rw [up_same,hn] at hb'
  rcases List.mem_cons.1 hb' with rfl|hb'
  ·exact hnew _ (.inr rfl)
  ·exact hnew _ (.inl hb')
 have hr:=h.read hb;have hw:=h.bel.size;refine⟨⟨fun i hi=>?_,fun i hi=>?_,fun i hi=>?_,fun i i' hi hi' hne b hb1 hb2=>?_,fun i hi b hb1=>?_,hr.bel⟩,e1,e2⟩
 ·have hi:i<j+1+1:=hi
  rcases Nat.lt_or_ge i (j+1) with hl|hl
  ·show WAt (up F (j+1) f i) _ _ _
   rw [up_ne _ _ (by omega)];exact hr.wa i hl
  ·obtain rfl:i=j+1:=by omega
   show WAt (up F (j+1) f (j+1)) _ _ _;rw [up_same,ht];exact hf
 ·have hi:i<j+1+1:=hi
  rcases Nat.lt_or_ge i (j+1) with hl|hl
  ·exact h.uok i hl
  ·obtain rfl:i=j+1:=by omega
   rw [ht];exact ok
 ·have hi:i<j+1+1:=hi
  rcases Nat.lt_or_ge i (j+1) with hl|hl
  ·exact h.un i hl
  ·obtain rfl:i=j+1:=by omega
   rw [ht];exact hn.symm
 ·have hi:i<j+1+1:=hi
  have hi':i'<j+1+1:=hi'
  have far:∀x,x≤j→∀b∈(lyD T B (up F (j+1) f) n (j+1)).rb x,b<W.heap.size:=fun x hx b hb'=>by
   rw [e1 x hx] at hb';exact h.lts (Lay.rin (Y:=lyD T B F n j) (show x<j+1 by omega) hb')
  rcases Nat.lt_or_ge i (j+1) with hl|hl
  ·rcases Nat.lt_or_ge i' (j+1) with hl'|hl'
   ·rw [e1 i (by omega)] at hb1
    rw [e1 i' (by omega)] at hb2;exact h.sep i i' hl hl' hne b hb1 hb2
   ·obtain rfl:i'=j+1:=by omega
    have:=far i (by omega) b hb1;have:=e2 b hb2;omega
  ·obtain rfl:i=j+1:=by omega
   have:=far i' (by omega) b hb2;have:=e2 b hb1;omega
 ·have hi:i<j+1+1:=hi
  rcases Nat.lt_or_ge i (j+1) with hl|hl
  ·rw [e1 i (by omega)] at hb1;exact h.new i hl b hb1
  ·obtain rfl:i=j+1:=by omega
   have:=e2 b hb1;omega
end
structure NwD(w0 w:World)(T B n:Nat→Nat)(n1:Nat)(dp:Int)(t:Nat→Tb)(k0:Nat)(F:Nat→Rf)(V R j:Nat)(vt:Value)(W:World):Prop where
 wn:Wn w0 (lyD T B F n j) t (kD k0) W
 e:W.heap[V]?=some (.cells #[.pointer (some ⟨(F 0).R,0,none⟩),vt,.int .i64 dp,.int .i64 0] 138 (0,0))
 r:Dd R V (j*n1) false W
 tg:W.ownsRow w.heap.size 72 1 vt j ((List.range j).map fun i=>.pointer (some ⟨(F (i+1)).R,0,none⟩))
 bel:Below w.heap.size w W
 hV:V=w.heap.size
 hR:R=w.heap.size+1
 old:∀b∈(lyD T B F n j).rb 0,b<w.heap.size
 new:∀i,1≤i→i≤j→∀b∈(lyD T B F n j).rb i,w.heap.size+2≤b
 oT:∀g,vt.ownBlock=some g→w.heap.size+2≤g∧∀i,i≤j→g∉(lyD T B F n j).rb i
section
variable {w0 w:World} {T B n:Nat→Nat} {n1:Nat} {dp:Int} {t:Nat→Tb} {k0:Nat} {F:Nat→Rf} {V R j:Nat} {vt:Value} {W W':World}
theorem NwD.lV(h:NwD w0 w T B n n1 dp t k0 F V R j vt W):V<W.heap.size:=(Array.getElem?_eq_some_iff.1 h.e).1
theorem NwD.read(h:NwD w0 w T B n n1 dp t k0 F V R j vt W)(hb:Below W.heap.size W W'):NwD w0 w T B n n1 dp t k0 F V R j vt W':=
 ⟨h.wn.read hb,(hb.block V h.lV).trans h.e,h.r.keep hb,row_below h.tg hb,under.below_step h.bel hb,h.hV,h.hR,h.old,h.new,h.oT⟩
theorem NwD.nV(h:NwD w0 w T B n n1 dp t k0 F V R j vt W):∀b,b=V∨b=R→b∉(lyD T B F n j).rall∧vt.ownBlock≠some b:=fun b hb=>by
 have e1:=h.hV;have e2:=h.hR;refine⟨fun e=>?_,fun e=>?_⟩
 ·obtain⟨i,hi,hb'⟩:=List.mem_flatMap.1 e
  have hi:i<j+1:=List.mem_range.1 hi
  rcases Nat.eq_zero_or_pos i with rfl|h0
  ·have:=h.old b hb';omega
  ·have:=h.new i h0 (by omega) b hb';omega
 ·have:=(h.oT b e).1;omega
theorem NwD.next{W1 W2 W3:World}{f:Rf}{g1 c1:Nat}(h:NwD w0 w T B n n1 dp t k0 F V R j vt W)(hw:w0.heap.size≤w.heap.size)(hn:n (j+1)=n1)(ht:t (j+1)=Tb.new n1)(ok:okN n1)(hb1:Below W.heap.size W W1)(hf:WAt f (Tb.new n1) 0 W1)(hnew:∀b,b∈f.d n1∨b=f.G→W.heap.size≤b)
  (hb2:Below W1.heap.size W1 W2)(hr:W3.ownsRow w.heap.size 72 1 (.slice (some ⟨g1,0,none⟩) (j+1) c1) (j+1) ((List.range j).map (fun i=>.pointer (some ⟨(F (i+1)).R,0,none⟩))++[.pointer (some ⟨f.R,0,none⟩)]))(hg:W2.grownBy W3 vt.ownBlock)(ha:vt.ownBlock=some g1∨g1=W2.heap.size) :
  NwD w0 w T B n n1 dp t k0 (up F (j+1) f) V R (j+1) (.slice (some ⟨g1,0,none⟩) (j+1) c1) ((W3.setCell ⟨V,1,none⟩ (.slice (some ⟨g1,0,none⟩) (j+1) c1)).setCell ⟨R,1,none⟩ (.int .i64 (((j+1)*n1:Nat):Int))):=by
 obtain⟨ha1,ha2,ha3⟩:=h.wn.add hb1 hn ht (Tb.Ok.new ok) hf hnew;have p3:=past_grown hg
 have mt:∀{o:Option Nat} {b:Nat},b∈o.toList→o=some b:=fun {o b} hb=>by cases o with
  | none=>cases hb
  | some x=>simp at hb;rw [hb]
 have z1:=hb1.size;have z2:=hb2.size;have z3:=p3.size;have zw:=h.bel.size;have lV:=h.lV;have lR:=h.r.lt;have hV:=h.hV;have hR:=h.hR
 have ml:∀b∈(lyD T B (up F (j+1) f) n (j+1)).rall,b∈(lyD T B F n j).rall∨W.heap.size≤b:=fun b hb=>by
  obtain⟨i,hi,hb'⟩:=List.mem_flatMap.1 hb;have hi:i<j+1+1:=List.mem_range.1 hi
  rcases Nat.lt_or_ge i (j+1) with hl|hl
  ·rw [ha2 i (by omega)] at hb'
   exact .inl (Lay.rin (Y:=lyD T B F n j) hl hb')
  ·obtain rfl:i=j+1:=by omega
   exact .inr (ha3 b hb')
 have oT':∀g,vt.ownBlock=some g→g∉(lyD T B (up F (j+1) f) n (j+1)).rall:=fun g hg' e=>by
  rcases ml g e with e|e
  ·obtain⟨i,hi,hb'⟩:=List.mem_flatMap.1 e
   have hi:i<j+1:=List.mem_range.1 hi;exact (h.oT g hg').2 i (by omega) hb'
  ·have:=(row_lt h.tg hg').2;omega
 have nVR:∀b,b=V∨b=R→b∉(lyD T B (up F (j+1) f) n (j+1)).rall:=fun b hb e=>by
  rcases ml b e with e|e
  ·exact (h.nV b hb).1 e
  ·rcases hb with rfl|rfl <;> omega
 have bW3:Below w.heap.size w W3:=(under.below_step (under.below_step h.bel hb1) hb2).grown hg (by omega) fun g hg'=>(row_lt h.tg hg').1
 have w3:Wn w0 (lyD T B (up F (j+1) f) n (j+1)) t (kD k0) W3:=(ha1.read hb2).past p3 ((under.below_step ha1.bel hb2).grown hg (by have:=ha1.bel.size;omega) fun g hg'=>by have:=(row_lt h.tg hg').1;omega) fun b hb=>oT' b (mt hb)
 have e3:W3.heap[V]?=some (.cells #[.pointer (some ⟨(F 0).R,0,none⟩),vt,.int .i64 dp,.int .i64 0] 138 (0,0)):=by
  rw [p3.block V (by omega) (fun e=>(h.nV V (.inl rfl)).2 (mt e)),hb2.block V (by omega),hb1.block V lV];exact h.e
 have r3:Dd R V (j*n1) false W3:=((h.r.keep hb1).keep hb2).past p3 fun e=>(h.nV R (.inr rfl)).2 (mt e)
 have p4:Past [V] W3 (W3.setCell ⟨V,1,none⟩ (.slice (some ⟨g1,0,none⟩) (j+1) c1)):=(Past.refl [V] W3).store (.inl (by simp)) _;have p5:Past [R] (W3.setCell ⟨V,1,none⟩ (.slice (some ⟨g1,0,none⟩) (j+1) c1)) ((W3.setCell ⟨V,1,none⟩ (.slice (some ⟨g1,0,none⟩) (j+1) c1)).setCell ⟨R,1,none⟩ (.int .i64 (((j+1)*n1:Nat):Int))):=(Past.refl [R] _).store (.inl (by simp)) _;have e4:=heap_setCell_same W3 V 1 _ _ (.slice (some ⟨g1,0,none⟩) (j+1) c1) e3
 have hg1:w.heap.size+2≤g1∧g1∉(lyD T B (up F (j+1) f) n (j+1)).rall:=by
  rcases ha with e|rfl
  ·exact⟨(h.oT g1 e).1,oT' g1 e⟩
  ·refine⟨by omega,fun e=>?_⟩
   have:=ha1.lts e;omega
 have v0:w0.heap.size≤V:=by omega
 have r0:w0.heap.size≤R:=by omega
 have v1:w.heap.size≤V:=by omega
 have w4:=w3.past p4 (w3.bel.trans (p4.below w3.bel.size (only v0))) (only (nVR V (.inl rfl)));have w5:=w4.past p5 (w4.bel.trans (p5.below w4.bel.size (only r0))) (only (nVR R (.inr rfl)));have b4:Below w.heap.size w (W3.setCell ⟨V,1,none⟩ (.slice (some ⟨g1,0,none⟩) (j+1) c1)):=bW3.trans (p4.below bW3.size (only v1));refine⟨w5, ?_, ?_, ?_,b4.trans (p5.below b4.size fun b hb=>?_),hV,hR, ?_,fun i h1 h2 b hb=>?_,fun g hg'=>?_⟩
 ·rw [p5.block V (by have:=p4.size;omega) (by simp;omega),e4]
  show some (Obj.cells #[_,_,_,_] _ _)=some (Obj.cells #[.pointer (some ⟨(up F (j+1) f 0).R,0,none⟩),_,_,_] _ _);rw [up_ne _ _ (by omega)]
 ·exact (r3.past p4 (by simp;omega)).set1 _
 ·have hl:(List.range (j+1)).map (fun i=>Value.pointer (some ⟨(up F (j+1) f (i+1)).R,0,none⟩))=(List.range j).map (fun i=>Value.pointer (some ⟨(F (i+1)).R,0,none⟩))++[.pointer (some ⟨f.R,0,none⟩)]:=by
   rw [List.range_succ,List.map_append]
   congr 1
   ·refine List.map_congr_left fun i hi=>?_
    rw [up_ne _ _ (by have:=List.mem_range.1 hi;omega)]
   ·show [Value.pointer (some ⟨(up F (j+1) f (j+1)).R,0,none⟩)]=_
    rw [up_same]
  rw [hl];refine row_past2 (row_past2 hr p4 fun g hg' e=>?_) p5 fun g hg' e=>?_
  ·obtain rfl:g1=g:=by injection hg'
   obtain rfl:g1=V:=by simpa using e
   omega
  ·obtain rfl:g1=g:=by injection hg'
   obtain rfl:g1=R:=by simpa using e
   omega
 ·obtain rfl:b=R:=by simpa using hb
  omega
 ·intro b hb
  rw [ha2 0 (by omega)] at hb;exact h.old b hb
 ·rcases Nat.lt_or_ge i (j+1) with hl|hl
  ·rw [ha2 i (by omega)] at hb
   exact h.new i h1 (by omega) b hb
  ·obtain rfl:i=j+1:=by omega
   have:=ha3 b hb;omega
 ·obtain rfl:g1=g:=by injection hg'
  exact⟨hg1.1,fun i hi e=>hg1.2 (Lay.rin (Y:=lyD T B (up F (j+1) f) n (j+1)) (show i<j+1+1 by omega) e)⟩
end
theorem grown_more{w W W':World}{o:Option Nat}(h:w.grownBy W o)(hb:Below W.heap.size W W'):w.grownBy W' o:=
 ⟨hb.os.trans h.os,hb.tape.trans h.tape,hb.output.trans h.output,Nat.le_trans h.size hb.size,fun k hk hn=>(hb.block k (Nat.lt_of_lt_of_le hk h.size)).trans (h.block k hk hn)⟩
structure NS where
 b:Option Nat
 v:Option Value
structure ND(w1:World)(base j:Nat)(vt tv:Value)(xs:List Value)(s:NS)(W:World):Prop where
 keep:Past vt.ownBlock.toList w1 W
 n0:s.v=none→Below w1.heap.size w1 W∧∀b,s.b=some b→W.cell? ⟨b,0,none⟩=some tv
 n1:∀v,s.v=some v→∃W2 g c,v=.slice (some ⟨g,0,none⟩) (j+1) c∧Below w1.heap.size w1 W2∧W.ownsRow base 72 1 v (j+1) (xs++[tv])∧W2.grownBy W vt.ownBlock∧(vt.ownBlock=some g∨g=W2.heap.size)
section
variable {w1:World} {base j:Nat} {vt tv:Value} {xs:List Value} {s:NS} {W W':World}
theorem ND.start(hb:Below w1.heap.size w1 W):ND w1 base j vt tv xs ⟨none,none⟩ W:=⟨Past.of hb,fun _=>⟨hb,fun b e=>by cases e⟩,fun v e=>by cases e⟩
theorem ND.make(h:ND w1 base j vt tv xs s W)(o:Obj)(ho:(W.alloc o).cell? ⟨W.heap.size,0,none⟩=some tv):ND w1 base j vt tv xs ⟨some W.heap.size,s.v⟩ (W.alloc o):=by
 have hb:=new_block W o;refine⟨h.keep.trans (Past.of hb),fun e=>⟨under.below_step (h.n0 e).1 hb,fun b e=>by cases e;exact ho⟩,fun v e=>?_⟩;obtain⟨W2,g,c,h1,h2,h3,h4,h5⟩:=h.n1 v e;exact⟨W2,g,c,h1,h2,row_below h3 hb,grown_more h4 hb,h5⟩
theorem ND.grow{b:Nat}(h:ND w1 base j vt tv xs ⟨some b,none⟩ W){g c:Nat}(hr:W'.ownsRow base 72 1 (.slice (some ⟨g,0,none⟩) (j+1) c) (j+1) (xs++[tv]))(hg:W.grownBy W' vt.ownBlock)(ha:vt.ownBlock=some g∨g=W.heap.size):ND w1 base j vt tv xs ⟨some b,some (.slice (some ⟨g,0,none⟩) (j+1) c)⟩ W':=
 ⟨h.keep.trans (past_grown hg),(fun e=>by cases e),fun v e=>by cases e;exact⟨W,g,c,rfl,(h.n0 rfl).1,hr,hg,ha⟩⟩
end
def NM:Nat→NS→Value→NS→Prop:=fun k s v s'=>if k=12 then ∃b,v=.slice (some ⟨b,0,none⟩) 1 1∧s'=⟨some b,s.v⟩ else ∃g c j:Nat,v=.slice (some ⟨g,0,none⟩) (j+1) c∧s'=⟨s.b,some v⟩
theorem NM.has(k:Nat)(s:NS):∃v s',NM k s v s':=by
 unfold NM
 split
 ·exact⟨_,_,0,rfl,rfl⟩
 ·exact⟨_,_,0,0,0,rfl,rfl⟩
set_option maxRecDepth 20000 in
set_option maxHeartbeats 1000000 in
theorem rdnew_yes(w0 w:World)(T B n:Nat→Nat)(n1 d nb:Nat)(dp:Int)(t:Nat→Tb)(k0:Nat)(f0:Rf)(h:Wn w0 (lyD T B (fun _=>f0) n 0) t (kD k0) w)(o1:okN n1)(ld:d≤15)(hd:dp≤15)(hnb:(dp<0∧nb=1)∨(dp=d∧nb=2))(hn:∀j,1≤j→j<nb+1→n j=n1)(ht:∀j,1≤j→t j=Tb.new n1) :
  Calls Tryz.prog 67 #[.pointer (some ⟨f0.R,0,none⟩),.int .i64 (n1:Nat),.int .i64 dp] w fun e w'=>∃(F:Nat→Rf) (R E G c:Nat),e=.returned (.tuple #[.pointer (some ⟨R,0,none⟩),.int .i64 0])∧Rd w0 R E G c d 0 (nb*n1) false (lyD T B F n nb) t (kD k0) w'∧Below w.heap.size w w'∧w.heap.size≤R∧w.heap.size≤E∧w.heap.size≤G∧∀b∈(lyD T B F n nb).rall,b∈(lyD T B (fun _=>f0) n 0).rall∨w.heap.size≤b:=by
 obtain⟨i0,hi0,hq0,hq1,hq2⟩:=info_parts infoTR;have cR:=fun W=>rright_yes n1 o1 W
 have d1:decide (15<dp)=false:=decide_eq_false (by omega);have hn64:=okN_le o1;have hw0:=h.bel.size;have hold:∀b∈(lyD T B (fun _=>f0) n 0).rb 0,b<w.heap.size:=fun b hb=>h.lts (Lay.rin (Y:=lyD T B (fun _=>f0) n 0) (show 0<0+1 by omega) hb)
 have hb2:=two_new w (.cells #[.pointer (some ⟨f0.R,0,none⟩),.slice none 0 0,.int .i64 dp,.int .i64 0] 138) (.cells #[.pointer (some ⟨w.heap.size,0,none⟩),.int .i64 0,.bool false] 141)
 have HI:=Lib.hid (show NwD w0 w T B n n1 dp t k0 (fun _=>f0) w.heap.size (w.heap.size+1) 0 (.slice none 0 0) ((w.alloc (.cells #[.pointer (some ⟨f0.R,0,none⟩),.slice none 0 0,.int .i64 dp,.int .i64 0] 138)).alloc (.cells #[.pointer (some ⟨w.heap.size,0,none⟩),.int .i64 0,.bool false] 141)) from by
  refine⟨h.read hb2, ?_,⟨?_⟩,World.ownsRow_nil _ _ _ _,hb2,rfl,rfl,hold,fun i h1 h2=>by omega,fun g e=>by cases e⟩
  ·rw [(new_block _ _).block w.heap.size (by rw [World.size_alloc];omega)]
   exact World.alloc_heap_new _ _
  ·have:=World.alloc_heap_new (w.alloc (.cells #[.pointer (some ⟨f0.R,0,none⟩),.slice none 0 0,.int .i64 dp,.int .i64 0] 138)) (.cells #[.pointer (some ⟨w.heap.size,0,none⟩),.int .i64 0,.bool false] 141)
   rw [World.size_alloc] at this
   rw [this,Nat.zero_mul];rfl)
 have hrt:=rt_some;have hnb2:1≤nb∧nb≤2:=by omega
 have HN:=Lib.hid hn;have HT:=Lib.hid ht;have HNB:=Lib.hid hnb;clear h hn ht hb2 hold
 have hdz:(decide ((0:Int)≤dp)=true∧nb=2)∨(decide ((0:Int)≤dp)=false∧nb=1):=by
  rcases hnb with⟨h1,h2⟩|⟨h1,h2⟩
  ·exact .inr ⟨decide_eq_false (by omega),h2⟩
  ·exact .inl ⟨decide_eq_true (by omega),h2⟩
 clear hnb
 rcases hdz with⟨hz,hz2⟩|⟨hz,hz2⟩
 ·subst hz2
  go_enter Tryz.func67,Tryz.ntmps67
  go_wp2_with (go_at_call 88;refine (cR _).mono ?_;rintro e w2 ⟨rfl,rfl⟩)
  generalize (w.alloc (.cells #[.pointer (some ⟨f0.R,0,none⟩),.slice none 0 0,.int .i64 dp,.int .i64 0] 138)).alloc (.cells #[.pointer (some ⟨w.heap.size,0,none⟩),.int .i64 0,.bool false] 141)=W0 at *
  obtain⟨R,hR⟩:∃R,w.heap.size+1=R:=⟨_,rfl⟩;rw [hR] at HI ⊢;have HRR:=Lib.hid hR;clear hR;obtain⟨V,hV⟩:∃V,w.heap.size=V:=⟨_,rfl⟩;have HVV:=Lib.hid hV;rw [show NwD w0 w T B n n1 dp t k0 (fun _=>f0) w.heap.size R 0 (.slice none 0 0) W0=NwD w0 w T B n n1 dp t k0 (fun _=>f0) V R 0 (.slice none 0 0) W0 by rw [hV]] at HI;clear hV
  go_loopw [10] (fun i wr=>∃j:Nat,j≤2∧i=.int .i64 j∧Hid (∃F vt,NwD w0 w T B n n1 dp t k0 F V R j vt wr∧F 0=f0)) (fun i _=>2-(intOf i).toNat)
  case atStart=>exact⟨0,by omega,rfl,Lib.hid ⟨_,_,HI.out,rfl⟩⟩
  case round =>
   obtain⟨j,hj,rfl,HR⟩:=hrel;clear HI
   rcases Nat.lt_or_ge j 2 with hjl|hjl
   ·have hji:(j:Int)<(2:Int):=by omega
    obtain⟨F,vt,hW,hF⟩:=HR.out;have cN:=rtnew_yes n1 o1 wr;have HW:=Lib.hid (And.intro hW hF);clear hW hF HR
    go_upto_region 13 with (go_at_call 40;refine cN.mono ?_;clear cN;rintro e w1 ⟨f,rfl,hf,hnew,hb1⟩)
    have h1:=HW.out.1.read hb1;have nVR:=HW.out.1.nV;obtain⟨xs,hxs⟩:∃xs,(List.range j).map (fun i=>Value.pointer (some ⟨(F (i+1)).R,0,none⟩))=xs:=⟨_,rfl⟩;obtain⟨fR,htv⟩:∃fR,f.R=fR:=⟨_,rfl⟩;rw [htv];have q0:∀q:movex.Un (ND w1 w.heap.size j vt (.pointer (some ⟨fR,0,none⟩)) xs),q.W.cell? ⟨R,0,none⟩=some (.pointer (some ⟨V,0,none⟩)):=fun q=>q.h.keep.cell h1.r.c0 (fun e=>(nVR R (.inr rfl)).2 (mt_list e))
    have q1:∀q:movex.Un (ND w1 w.heap.size j vt (.pointer (some ⟨fR,0,none⟩)) xs),q.W.cell? ⟨V,1,none⟩=some vt:=fun q=>q.h.keep.cell (by rw [cell_of_row _ _ _ _ _ _ h1.e];rfl) (fun e=>(nVR V (.inl rfl)).2 (mt_list e))
    have hst:ND w1 w.heap.size j vt (.pointer (some ⟨fR,0,none⟩)) xs ⟨none,none⟩ w1.drew:=ND.start (under.drew_below _);have hown:w1.ownsRow w.heap.size 72 1 vt j xs:=by rw [←hxs];exact h1.tg
    have HX:=Lib.hid (And.intro (And.intro hf hnew) (And.intro hb1 (And.intro hown (And.intro hxs htv))));have zw:=h1.bel.size
    haveI : Nonempty (movex.Un (ND w1 w.heap.size j vt (.pointer (some ⟨fR,0,none⟩)) xs)):=⟨⟨_,_,hst⟩⟩
    clear hf hnew hb1 h1 hown hxs;refine (wpIn_wide (n:=3)).1 ?_;refine movex.region (D:=ND w1 w.heap.size j vt (.pointer (some ⟨fR,0,none⟩)) xs) NM 13 16 [false,false,false,false,false,false,false,false,false,false,false,false,true,true,false,false] [] (by kernel_rfl) (by kernel_rfl) (by kernel_rfl) (fun k s _=>NM.has k s) (fun i j hij=>by cases hij) ⟨none,none⟩ hst ?_;simp only [List.take_succ_cons,List.take_zero,List.drop_succ_cons,List.drop_zero];clear hst
    iterate 12
     refine movex.pure_step (fun _ _ _=>trivial) (fun K hK=>?_);go_simp;refine hK _ ?_;clear hK K
    refine movex.move_step (fun _ _ _=>trivial) (by kernel_rfl) (fun sd wd hd=>?_) ?_
    ·go_simp
     exact⟨_,⟨_,rfl,rfl⟩,hd.make _ (newc _ _ _)⟩
    rintro _ _ ⟨b,rfl,rfl⟩ K hK;refine hK _ ?_;clear hK K;refine movex.last_step (fun _ _ _=>trivial) (by kernel_rfl) (fun wd hd=>?_) ?_
    ·have hn0:=hd.n0 rfl
     refine movex.step_append wd _ _ _ rfl w.heap.size 72 i0 (.pointer none) 1 8 Tryz.underlying136 hi0 hq0 hq1 hq2 rfl (by decide) vt j xs rfl (row_below HX.out.2.2.1 hn0.1) ⟨b,0,none⟩ 1 1 [.pointer (some ⟨fR,0,none⟩)] rfl rfl (fun i u hu=>?_) (by simp [Value.oneCell']) (by decide) (by simp only [maxLen];omega) (by omega) (by have:=hn0.1.size;omega) (fun g cap w' hr hg ha=>?_)
     ·obtain⟨rfl,rfl⟩:=one_at hu
      exact hn0.2 b rfl
     ·exact⟨_,⟨g,cap,j,rfl,rfl⟩,hd.grow hr hg ha⟩
    rintro _ _ ⟨g1,c1,j1,rfl,rfl⟩ K hK;refine hK _ ?_;clear hK K
    iterate 2
     refine movex.pure_step (fun _ _ _=>trivial) (fun K hK=>?_);go_simp;refine hK _ ?_;clear hK K
    refine movex.nil_step ?_;intro w3 hw3;have hw3':ND w1 w.heap.size j vt (.pointer (some ⟨fR,0,none⟩)) xs ⟨some b,some (.slice (some ⟨g1,0,none⟩) (j1+1) c1)⟩ w3:=hw3;clear hw3;obtain⟨W2,g,c,he,hb2,hr,hg,ha⟩:=hw3'.n1 _ rfl;injection he with he1 he2 he3;injection he1 with he1;injection he1 with he1;obtain rfl:j1=j:=by omega
    subst he1;subst he3;obtain⟨x0,hx0⟩:∃x0,j1*n1=x0:=⟨_,rfl⟩;obtain⟨x1,hx1⟩:∃x1,(j1+1)*n1=x1:=⟨_,rfl⟩;have hx2:x1=x0+n1:=by rw [←hx0,←hx1,Nat.add_mul,Nat.one_mul]
    have hx3:x0≤128:=by
     have : j1*n1≤2*64:=Nat.mul_le_mul (by omega) hn64;omega
    have h1:=HW.out.1.read HX.out.2.1;have e3:=(hw3'.keep.block V h1.lV (fun e=>(nVR V (.inl rfl)).2 (mt_list e))).trans h1.e;have r3:=h1.r.past hw3'.keep (fun e=>(nVR R (.inr rfl)).2 (mt_list e));have k1:w3.cell? ⟨V,1,none⟩=some vt:=by rw [cell_of_row _ _ _ _ _ _ e3];rfl
    have kf:∀i,w3.frozen? ⟨V,i,none⟩=false:=fun i=>frozen_of_row _ _ i _ _ e3
    have l1:=r3.c1;rw [hx0] at l1;have lf:=r3.fz;have nVR1:V≠R:=by have:=HRR.out;have:=HVV.out;omega
    have nVR2:R≠V:=fun e=>nVR1 e.symm
    have ew:IntKind.i64.wrap ((x0:Int)+(n1:Int))=((x1:Nat):Int):=by rw [IntWalk.i64_in _ (by omega)];omega
    have hN:=HW.out.1.next hw0 (HN.out (j1+1) (by omega) (by omega)) (HT.out (j1+1) (by omega)) o1 HX.out.2.1 HX.out.1.1 HX.out.1.2 hb2 (by rw [HX.out.2.2.2.1,HX.out.2.2.2.2];exact hr) hg ha;rw [hx1] at hN;have HNX:=Lib.hid hN;clear hN h1 e3 r3 hw3' hb2 hr hg ha q0 q1 this nVR hx0 hx1 hx2 he2;gi_wp2;go_wp2
    go_roundw
    case rel=>exact⟨j1+1,by omega,by simp,Lib.hid ⟨up F (j1+1) f,_,HNX.out,by rw [up_ne _ _ (by omega)];exact HW.out.2⟩⟩
    case measure=>simp [intOf];omega
   ·obtain rfl:j=2:=by omega
    obtain⟨F,vt,hW,hF⟩:=HR.out;obtain⟨G,c,hvt,hG1,hG2⟩:=hW.tg.form (by omega);subst hvt;have HW:=Lib.hid (And.intro hW hF);clear hW hF HR;go_wp2
    go_ret2
    obtain⟨hW,hF⟩:=HW.out;have hV:=HVV.out;have hR:=HRR.out;obtain⟨hoT1,hoT2⟩:=hW.oT G rfl;have nV:=hW.nV;refine⟨F,R,V,G,c,rfl,⟨hW.r,⟨⟨dp,fun h3=>?_,hW.e⟩,fun i h1 hi=>?_,hG2,by omega⟩,hW.wn,(nV R (.inr rfl)).1,(nV V (.inl rfl)).1,fun e=>?_,.inr rfl,ld,by omega,by omega⟩,hW.bel,by omega,by omega,by omega,fun b hb=>?_⟩
    ·rcases HNB.out with⟨_,q⟩|⟨q,_⟩
     ·omega
     ·exact q
    ·have hi:i<2+1:=hi
     rw [hW.tg.cellAt (i-1) (by omega)]
     simp [show i-1<2 by omega,show i-1+1=i by omega]
    ·obtain⟨i,hi,hb⟩:=List.mem_flatMap.1 e
     have hi:i<2+1:=List.mem_range.1 hi;exact hoT2 i (by omega) hb
    ·obtain⟨i,hi,hb'⟩:=List.mem_flatMap.1 hb
     have hi:i<2+1:=List.mem_range.1 hi
     rcases Nat.eq_zero_or_pos i with rfl|h0
     ·left
      have hb':b∈(F 0).G::(F 0).d (n 0):=hb';rw [hF] at hb';exact Lay.rin (Y:=lyD T B (fun _=>f0) n 0) (show 0<0+1 by omega) hb'
     ·have:=hW.new i h0 (by omega) b hb'
      exact .inr (by omega)
 ·subst hz2
  go_enter Tryz.func67,Tryz.ntmps67
  go_wp2_with (go_at_call 88;refine (cR _).mono ?_;rintro e w2 ⟨rfl,rfl⟩)
  generalize (w.alloc (.cells #[.pointer (some ⟨f0.R,0,none⟩),.slice none 0 0,.int .i64 dp,.int .i64 0] 138)).alloc (.cells #[.pointer (some ⟨w.heap.size,0,none⟩),.int .i64 0,.bool false] 141)=W0 at *
  obtain⟨R,hR⟩:∃R,w.heap.size+1=R:=⟨_,rfl⟩;rw [hR] at HI ⊢;have HRR:=Lib.hid hR;clear hR;obtain⟨V,hV⟩:∃V,w.heap.size=V:=⟨_,rfl⟩;have HVV:=Lib.hid hV;rw [show NwD w0 w T B n n1 dp t k0 (fun _=>f0) w.heap.size R 0 (.slice none 0 0) W0=NwD w0 w T B n n1 dp t k0 (fun _=>f0) V R 0 (.slice none 0 0) W0 by rw [hV]] at HI;clear hV
  go_loopw [10] (fun i wr=>∃j:Nat,j≤1∧i=.int .i64 j∧Hid (∃F vt,NwD w0 w T B n n1 dp t k0 F V R j vt wr∧F 0=f0)) (fun i _=>1-(intOf i).toNat)
  case atStart=>exact⟨0,by omega,rfl,Lib.hid ⟨_,_,HI.out,rfl⟩⟩
  case round =>
   obtain⟨j,hj,rfl,HR⟩:=hrel;clear HI
   rcases Nat.lt_or_ge j 1 with hjl|hjl
   ·have hji:(j:Int)<(1:Int):=by omega
    obtain⟨F,vt,hW,hF⟩:=HR.out;have cN:=rtnew_yes n1 o1 wr;have HW:=Lib.hid (And.intro hW hF);clear hW hF HR
    go_upto_region 13 with (go_at_call 40;refine cN.mono ?_;clear cN;rintro e w1 ⟨f,rfl,hf,hnew,hb1⟩)
    have h1:=HW.out.1.read hb1;have nVR:=HW.out.1.nV;obtain⟨xs,hxs⟩:∃xs,(List.range j).map (fun i=>Value.pointer (some ⟨(F (i+1)).R,0,none⟩))=xs:=⟨_,rfl⟩;obtain⟨fR,htv⟩:∃fR,f.R=fR:=⟨_,rfl⟩;rw [htv];have q0:∀q:movex.Un (ND w1 w.heap.size j vt (.pointer (some ⟨fR,0,none⟩)) xs),q.W.cell? ⟨R,0,none⟩=some (.pointer (some ⟨V,0,none⟩)):=fun q=>q.h.keep.cell h1.r.c0 (fun e=>(nVR R (.inr rfl)).2 (mt_list e))
    have q1:∀q:movex.Un (ND w1 w.heap.size j vt (.pointer (some ⟨fR,0,none⟩)) xs),q.W.cell? ⟨V,1,none⟩=some vt:=fun q=>q.h.keep.cell (by rw [cell_of_row _ _ _ _ _ _ h1.e];rfl) (fun e=>(nVR V (.inl rfl)).2 (mt_list e))
    have hst:ND w1 w.heap.size j vt (.pointer (some ⟨fR,0,none⟩)) xs ⟨none,none⟩ w1.drew:=ND.start (under.drew_below _);have hown:w1.ownsRow w.heap.size 72 1 vt j xs:=by rw [←hxs];exact h1.tg
    have HX:=Lib.hid (And.intro (And.intro hf hnew) (And.intro hb1 (And.intro hown (And.intro hxs htv))));have zw:=h1.bel.size
    haveI : Nonempty (movex.Un (ND w1 w.heap.size j vt (.pointer (some ⟨fR,0,none⟩)) xs)):=⟨⟨_,_,hst⟩⟩
    clear hf hnew hb1 h1 hown hxs;refine (wpIn_wide (n:=3)).1 ?_;refine movex.region (D:=ND w1 w.heap.size j vt (.pointer (some ⟨fR,0,none⟩)) xs) NM 13 16 [false,false,false,false,false,false,false,false,false,false,false,false,true,true,false,false] [] (by kernel_rfl) (by kernel_rfl) (by kernel_rfl) (fun k s _=>NM.has k s) (fun i j hij=>by cases hij) ⟨none,none⟩ hst ?_;simp only [List.take_succ_cons,List.take_zero,List.drop_succ_cons,List.drop_zero];clear hst
    iterate 12
     refine movex.pure_step (fun _ _ _=>trivial) (fun K hK=>?_);go_simp;refine hK _ ?_;clear hK K
    refine movex.move_step (fun _ _ _=>trivial) (by kernel_rfl) (fun sd wd hd=>?_) ?_
    ·go_simp
     exact⟨_,⟨_,rfl,rfl⟩,hd.make _ (newc _ _ _)⟩
    rintro _ _ ⟨b,rfl,rfl⟩ K hK;refine hK _ ?_;clear hK K;refine movex.last_step (fun _ _ _=>trivial) (by kernel_rfl) (fun wd hd=>?_) ?_
    ·have hn0:=hd.n0 rfl
     refine movex.step_append wd _ _ _ rfl w.heap.size 72 i0 (.pointer none) 1 8 Tryz.underlying136 hi0 hq0 hq1 hq2 rfl (by decide) vt j xs rfl (row_below HX.out.2.2.1 hn0.1) ⟨b,0,none⟩ 1 1 [.pointer (some ⟨fR,0,none⟩)] rfl rfl (fun i u hu=>?_) (by simp [Value.oneCell']) (by decide) (by simp only [maxLen];omega) (by omega) (by have:=hn0.1.size;omega) (fun g cap w' hr hg ha=>?_)
     ·obtain⟨rfl,rfl⟩:=one_at hu
      exact hn0.2 b rfl
     ·exact⟨_,⟨g,cap,j,rfl,rfl⟩,hd.grow hr hg ha⟩
    rintro _ _ ⟨g1,c1,j1,rfl,rfl⟩ K hK;refine hK _ ?_;clear hK K
    iterate 2
     refine movex.pure_step (fun _ _ _=>trivial) (fun K hK=>?_);go_simp;refine hK _ ?_;clear hK K
    refine movex.nil_step ?_;intro w3 hw3;have hw3':ND w1 w.heap.size j vt (.pointer (some ⟨fR,0,none⟩)) xs ⟨some b,some (.slice (some ⟨g1,0,none⟩) (j1+1) c1)⟩ w3:=hw3;clear hw3;obtain⟨W2,g,c,he,hb2,hr,hg,ha⟩:=hw3'.n1 _ rfl;injection he with he1 he2 he3;injection he1 with he1;injection he1 with he1;obtain rfl:j1=j:=by omega
    subst he1;subst he3;obtain⟨x0,hx0⟩:∃x0,j1*n1=x0:=⟨_,rfl⟩;obtain⟨x1,hx1⟩:∃x1,(j1+1)*n1=x1:=⟨_,rfl⟩;have hx2:x1=x0+n1:=by rw [←hx0,←hx1,Nat.add_mul,Nat.one_mul]
    have hx3:x0≤128:=by
     have : j1*n1≤2*64:=Nat.mul_le_mul (by omega) hn64;omega
    have h1:=HW.out.1.read HX.out.2.1;have e3:=(hw3'.keep.block V h1.lV (fun e=>(nVR V (.inl rfl)).2 (mt_list e))).trans h1.e;have r3:=h1.r.past hw3'.keep (fun e=>(nVR R (.inr rfl)).2 (mt_list e));have k1:w3.cell? ⟨V,1,none⟩=some vt:=by rw [cell_of_row _ _ _ _ _ _ e3];rfl
    have kf:∀i,w3.frozen? ⟨V,i,none⟩=false:=fun i=>frozen_of_row _ _ i _ _ e3
    have l1:=r3.c1;rw [hx0] at l1;have lf:=r3.fz;have nVR1:V≠R:=by have:=HRR.out;have:=HVV.out;omega
    have nVR2:R≠V:=fun e=>nVR1 e.symm
    have ew:IntKind.i64.wrap ((x0:Int)+(n1:Int))=((x1:Nat):Int):=by rw [IntWalk.i64_in _ (by omega)];omega
    have hN:=HW.out.1.next hw0 (HN.out (j1+1) (by omega) (by omega)) (HT.out (j1+1) (by omega)) o1 HX.out.2.1 HX.out.1.1 HX.out.1.2 hb2 (by rw [HX.out.2.2.2.1,HX.out.2.2.2.2];exact hr) hg ha;rw [hx1] at hN;have HNX:=Lib.hid hN;clear hN h1 e3 r3 hw3' hb2 hr hg ha q0 q1 this nVR hx0 hx1 hx2 he2;gi_wp2;go_wp2
    go_roundw
    case rel=>exact⟨j1+1,by omega,by simp,Lib.hid ⟨up F (j1+1) f,_,HNX.out,by rw [up_ne _ _ (by omega)];exact HW.out.2⟩⟩
    case measure=>simp [intOf];omega
   ·obtain rfl:j=1:=by omega
    obtain⟨F,vt,hW,hF⟩:=HR.out;obtain⟨G,c,hvt,hG1,hG2⟩:=hW.tg.form (by omega);subst hvt;have HW:=Lib.hid (And.intro hW hF);clear hW hF HR;go_wp2
    go_ret2
    obtain⟨hW,hF⟩:=HW.out;have hV:=HVV.out;have hR:=HRR.out;obtain⟨hoT1,hoT2⟩:=hW.oT G rfl;have nV:=hW.nV;refine⟨F,R,V,G,c,rfl,⟨hW.r,⟨⟨dp,fun h3=>?_,hW.e⟩,fun i h1 hi=>?_,hG2,by omega⟩,hW.wn,(nV R (.inr rfl)).1,(nV V (.inl rfl)).1,fun e=>?_,.inl rfl,ld,by omega,by omega⟩,hW.bel,by omega,by omega,by omega,fun b hb=>?_⟩
    ·rcases HNB.out with⟨_,q⟩|⟨q,_⟩
     ·have h3:1+1=3:=h3;omega
     ·exact q
    ·have hi:i<1+1:=hi
     rw [hW.tg.cellAt (i-1) (by omega)];obtain rfl:i=1:=by omega
     rfl
    ·obtain⟨i,hi,hb⟩:=List.mem_flatMap.1 e
     have hi:i<1+1:=List.mem_range.1 hi;exact hoT2 i (by omega) hb
    ·obtain⟨i,hi,hb'⟩:=List.mem_flatMap.1 hb
     have hi:i<1+1:=List.mem_range.1 hi
     rcases Nat.eq_zero_or_pos i with rfl|h0
     ·left
      have hb':b∈(F 0).G::(F 0).d (n 0):=hb';rw [hF] at hb';exact Lay.rin (Y:=lyD T B (fun _=>f0) n 0) (show 0<0+1 by omega) hb'
     ·have:=hW.new i h0 (by omega) b hb'
      exact .inr (by omega)
end dual
namespace dual
open Go.ChangeShapes Go.WideShapes Go.ChangeAt Go.RowKit Go.Shelf swar under trap meter group probe lens tail call table evac
attribute [local go_sem] Oper.semAt_some stage.pureUpon move.stepUpon
section
variable {a:String→Addr} {w1:World} {T B n0 n1:Nat} {f0:Rf} {k:Nat} {t0:Tb} {W W':World}
end
theorem Pre.lay{a:String→Addr}{w0:World}{N:Nat}{T B n:Nat→Nat}{F F':Nat→Rf}{D:Nat}{Q:Nat→Nat}{n1 d:Nat}{dp:Int}{GB cB GT cT p dn:Nat}{t:Nat→Tb}{W:World}(h:Pre a w0 ⟨N,T,B,F,n⟩ D Q n1 d dp GB cB GT cT p dn t W):Pre a w0 ⟨N,T,B,F',n⟩ D Q n1 d dp GB cB GT cT p dn t W:=
 ⟨⟨h.pl.N,h.pl.e1,h.pl.o0,h.pl.o1,h.pl.ld,h.pl.dp,h.pl.hD,h.pl.hQ,h.pl.ht,h.pl.sep,h.pl.nD,h.pl.nQ,h.pl.qD,h.pl.qq⟩,h.row,h.gb,h.gt,⟨h.re.at',h.re.ok,h.re.tn,h.re.sep,h.re.new,h.re.bel,h.re.base⟩,h.bx,h.tb,h.nGB,h.nGT,h.tn,h.c1⟩
theorem DAt.lay0{a:String→Addr}{w0:World}{N:Nat}{T B n:Nat→Nat}{F F':Nat→Rf}{D n1 d:Nat}{dp:Int}{tk:Bool}{t:Nat→Tb}{fp:List Nat}{W:World}(h:DAt a w0 ⟨N,T,B,F,n⟩ D n1 d dp 0 tk t fp W):DAt a w0 ⟨N,T,B,F',n⟩ D n1 d dp 0 tk t fp W:=by
 rcases h with⟨hq,h1,Q,GB,cB,GT,cT,h,he⟩|⟨hq,h1,Q,GT,cT,GU,cU,V,h,he⟩
 ·exact .inl ⟨hq,h1,Q,GB,cB,GT,cT,h.lay,he⟩
 ·have hN:N=2∨N=3:=h.pl.N
  have h2:=okN_pos h.pl.o1;have h3:=Nat.mul_pos (show 0<N-1 by omega) h2;have hq:(N-1)*n1≤0:=hq;omega
end dual
namespace dual
open Go.ChangeShapes Go.WideShapes Go.ChangeAt Go.RowKit Go.Shelf swar under trap meter group probe lens tail call table evac split
attribute [local go_sem] Oper.semAt_some stage.pureUpon move.stepUpon
def comb(s r:Option Sl):Option Sl:=match r with
 | none=>s
 | some y=>match s with
  | none=>some y
  | some l=>if lessB y.key y.hash l.key l.hash=true then some y else some l
theorem comb_step(h k:Nat)(s r:Option Sl)(x:Sl):lstep h k (comb s r) x=comb s (lstep h k r x):=by
 unfold lstep;cases hx:lessB x.key x.hash k h
 ·simp only [Bool.false_eq_true,if_false]
  cases r with
  | none=>cases s <;> rfl
  | some y =>
   cases s with
   | none =>
    show (if lessB x.key x.hash y.key y.hash=true then some x else some y)=comb none (if lessB x.key x.hash y.key y.hash=true then some x else some y)
    split <;> rfl
   | some l =>
    show (match (if lessB y.key y.hash l.key l.hash=true then some y else some l) with|none=>some x|some z=>if lessB x.key x.hash z.key z.hash=true then some x else some z)=comb (some l) (if lessB x.key x.hash y.key y.hash=true then some x else some y);cases h1:lessB y.key y.hash l.key l.hash
    ·simp only [Bool.false_eq_true,if_false]
     cases h2:lessB x.key x.hash y.key y.hash
     ·have h3:lessB x.key x.hash l.key l.hash=false:=by
       rw [Bool.eq_false_iff,Ne,lessB_iff] at h1 h2 ⊢;omega
      simp [comb,h1,h3]
     ·simp [comb]
    ·simp only [if_true]
     cases h2:lessB x.key x.hash y.key y.hash
     ·simp [comb,h1]
     ·have h3:lessB x.key x.hash l.key l.hash=true:=by
       rw [lessB_iff] at h1 h2 ⊢;omega
      simp [comb,h3]
 ·simp
theorem comb_fold(h k:Nat)(s:Option Sl):∀l:List Sl,∀r,lfold h k (comb s r) l=comb s (lfold h k r l)
 | [],_=>rfl
 | x::l,r=>by
  show lfold h k (lstep h k (comb s r) x) l=comb s (lfold h k (lstep h k r x) l);rw [comb_step,comb_fold h k s l]
theorem lfold_comb(h k:Nat)(s:Option Sl)(l:List Sl):lfold h k s l=comb s (lfold h k none l):=comb_fold h k s l none
def gS(t:Nat→Tb):Nat→Nat
 | 0=>0
 | k+1=>gS t k+(t k).n
structure DL(L:Ln)(m:Mt)(w:World)(x K:Nat)(s:Option Sl)(W:World):Prop where
 ln:LnStep [] L (L.see m K) w W
 cl:W.cell? ⟨x,0,none⟩=some (.pointer L.p)
 r:EBox (x+1) 0 0 0 W
 b:EBox (x+1+1) (table.sK s) (sV s) (sH s) W
section
variable {L:Ln} {m:Mt} {w:World} {x K:Nat} {s:Option Sl} {W W':World}
theorem DL.read(h:DL L m w x K s W)(hb:Below W.heap.size W W'):DL L m w x K s W':=⟨h.ln.below hb,keepc hb h.cl,h.r.keep hb,h.b.keep hb⟩
theorem DL.look{j:Nat}(h:DL L m w x K s W)(hx:w.heap.size≤x)(hd:∀b∈L.d,b<w.heap.size)(hs:LnStep [] L (L.see (L.see m K) j) W W'):DL L m w x (K+j) s W':=by
 have n:∀b,x≤b→b∉([]++L.d):=fun b hb he=>by have:=hd b (by simpa using he);omega
 refine⟨?_,hs.past.cell h.cl (n _ (by omega)),h.r.past hs.past (n _ (by omega)),h.b.past hs.past (n _ (by omega))⟩;rw [Ln.see_add];exact h.ln.trans hs
theorem DL.set(h:DL L m w x K s W)(hx:w.heap.size≤x)(hd:∀b∈L.d,b<w.heap.size)(e:Sl):DL L m w x K (some e) (set3 (x+1+1) e.key e.val e.hash W):=
 ⟨((h.ln.newset hd (by simp;omega) _).newset hd (by simp;omega) _).newset hd (by simp;omega) _,by rw [set3_other (by omega)];exact h.cl,h.r.other (by omega) _ _ _,h.b.set _ _ _⟩
theorem DL.new(L:Ln)(m:Mt)(w:World)(hl:LnAt L m w):DL L m w w.heap.size 0 none ((((w.alloc (.cells #[.pointer L.p] 52)).alloc (.cells #[.int .u64 0,.int .u64 0,.int .u64 0] 44)).alloc (.cells #[.int .u64 0,.int .u64 0,.int .u64 0] 44))):=by
 have e0:(w.alloc (.cells #[.pointer L.p] 52)).cell? ⟨w.heap.size,0,none⟩=some (.pointer L.p):=by
  rw [cell_of_row _ _ _ _ _ _ (World.alloc_heap_new w (.cells #[.pointer L.p] 52))];rfl
 have e1:=EBox.new 0 0 0 (w.alloc (.cells #[.pointer L.p] 52));have e2:=EBox.new 0 0 0 (boxE 0 0 0 (w.alloc (.cells #[.pointer L.p] 52)));have b0:=new_block w (.cells #[.pointer L.p] 52);have b1:=new_block (w.alloc (.cells #[.pointer L.p] 52)) (.cells #[.int .u64 (0:Nat),.int .u64 (0:Nat),.int .u64 (0:Nat)] 44);have b2:=new_block (boxE 0 0 0 (w.alloc (.cells #[.pointer L.p] 52))) (.cells #[.int .u64 (0:Nat),.int .u64 (0:Nat),.int .u64 (0:Nat)] 44);have hL:L.see m 0=m:=by cases L <;> rfl
 rw [World.size_alloc] at e1 e2;rw [World.size_alloc] at e2;refine⟨?_,keepc b2 (keepc b1 e0),e1.keep b2,e2⟩;rw [hL];exact .of [] hl (under.below_step (under.below_step b0 b1) b2)
end
set_option maxRecDepth 20000 in
set_option maxHeartbeats 2000000 in
theorem least_core(a:String→Addr)(w0:World)(Y:Lay)(t:Nat→Tb)(D GT cT:Nat)(hash key:Nat)(L:Ln)(m:Mt)(hN:Y.N≤3)(w:World)(hr:Real a w0 Y t w)(hl:LnAt L m w)(hd:∀b∈L.d,w0.heap.size≤b∧b∉Y.tall)(h4:w.cell? ⟨D,4,none⟩=some (.slice (some ⟨GT,0,none⟩) Y.N cT))(hg:∀j,j<Y.N→w.cell? ⟨GT,j,none⟩=some (.pointer (some ⟨Y.T j,0,none⟩)))(hG:GT∉L.d) :
  Calls Tryz.prog 218 #[.pointer (some ⟨D,0,none⟩),.agg #[.pointer L.p],.int .u64 (hash:Nat),.int .u64 (key:Nat)] w fun e w'=>e=.returned (.tuple #[group.entV (table.sK (lfold hash key none (entsA t Y.N))) (sV (lfold hash key none (entsA t Y.N))) (sH (lfold hash key none (entsA t Y.N))),.bool (lfold hash key none (entsA t Y.N)).isSome])∧LnStep [] L (L.see m (gS t Y.N)) w w':=by
 have hlt:=hl.lt;have HI:=Lib.hid (DL.new L m w hl);have b3:=three_new w (.cells #[.pointer L.p] 52) (.cells #[.int .u64 0,.int .u64 0,.int .u64 0] 44) (.cells #[.int .u64 0,.int .u64 0,.int .u64 0] 44);have k4:=keepc b3 h4;have HH:=Lib.hid (show ∀(K:Nat) (s:Option Sl) (x:Nat) (W:World),DL L m w x K s W→Real a w0 Y t W∧LnAt L (L.see m K) W∧∀j,j<Y.N→W.cell? ⟨GT,j,none⟩=some (.pointer (some ⟨Y.T j,0,none⟩)) from fun K s x W hW=>⟨hr.lnL hd hW.ln,hW.ln.at',fun j hj=>hW.ln.past.cell (hg j hj) (by simpa using hG)⟩);have HD:=Lib.hid hd;clear hr hl h4 hg hd b3
 go_enter Tryz.func218,Tryz.ntmps218
 go_wp2_with (fail)
 go_loopw [21,11] (fun i b wr=>∃(j:Nat) (s:Option Sl),j≤Y.N∧i=.int .i64 j∧b=.bool s.isSome∧Hid (s=lfold hash key none (entsA t j)∧DL L m w w.heap.size (gS t j) s wr)) (fun i _ _=>Y.N-(intOf i).toNat)
 case atStart=>exact⟨0,none,by omega,rfl,rfl,Lib.hid ⟨rfl,HI.out⟩⟩
 case round =>
  obtain⟨j,s,hj,rfl,rfl,HR⟩:=hrel;clear HI k4
  rcases Nat.lt_or_ge j Y.N with hjl|hjl
  ·have hji:(j:Int)<(Y.N:Int):=by omega
   obtain⟨hRe,hLn,hC⟩:=HH.out _ _ _ _ HR.out.2;have hc:=hC j hjl;have hadd:(⟨GT,0,none⟩:Addr).add j=⟨GT,j,none⟩:=by rw [add_at,Nat.zero_add]
   have cl:=HR.out.2.cl;have cT:=least_tab (hRe.rdL hjl hLn HD.out) hash key;have hst:lfold hash key none (entsA t (j+1))=comb s (leastE (t j) hash key):=by rw [entsA_succ,lfold_append,←HR.out.1,lfold_comb];rfl
   have hgs:gS t (j+1)=gS t j+(t j).n:=rfl;have HT:=Lib.hid hst;have HG:=Lib.hid hgs;have hxs:w.heap.size+1+1<wr.heap.size:=HR.out.2.b.lt;clear hRe hLn hC hst hgs;generalize Y.T j=Tj at *
   generalize leastE (t j) hash key=r at *
   generalize (t j).n=nj at *
   cases r with
   | none =>
    have HT2:=Lib.hid (show lfold hash key none (entsA t (j+1))=s from HT.out);clear HT
    go_wp2_with (go_at_call 213;(with_reducible refine cT.mono ?_);clear cT;rintro e w2 ⟨rfl,hs2⟩;have hD2:=HR.out.2.look (Nat.le_refl _) hlt hs2;have hb3:=new_block w2 (.cells #[.int .u64 0,.int .u64 0,.int .u64 0] 44);have HD3:=Lib.hid (hD2.read hb3);clear hs2 hD2 hb3)
    go_roundw
    case rel=>exact⟨j+1,s,by omega,by simp,rfl,Lib.hid ⟨HT2.out.symm,by rw [HG.out];exact HD3.out⟩⟩
    case measure=>simp [intOf];omega
   | some y =>
    have cT2:Calls Tryz.prog 213 #[.pointer (some ⟨Tj,0,none⟩),.agg #[.pointer L.p],.int .u64 (hash:Nat),.int .u64 (key:Nat)] wr fun e w'=>e=.returned (.tuple #[.agg #[.int .u64 (y.key:Nat),.int .u64 (y.val:Nat),.int .u64 (y.hash:Nat)],.bool true])∧LnStep [] L (L.see (L.see m (gS t j)) nj) wr w':=cT
    clear cT;cases s with
    | none =>
     have HT2:=Lib.hid (show lfold hash key none (entsA t (j+1))=some y from HT.out);clear HT
     go_wp2_with (go_at_call 213;(with_reducible refine cT2.mono ?_);clear cT2;rintro e w2 ⟨rfl,hs2⟩;have hD2:=HR.out.2.look (Nat.le_refl _) hlt hs2;have hb3:=new_block w2 (.cells #[.int .u64 (y.key:Nat),.int .u64 (y.val:Nat),.int .u64 (y.hash:Nat)] 44);have hE:=EBox.new y.key y.val y.hash w2;have hD3:=hD2.read hb3;have hz2:=hD2.b.lt;have HD3:=Lib.hid hD2;have k0:w2.cell? ⟨w.heap.size+1+1,0,none⟩=some (.int .u64 0):=hD2.b.c0;have k1:w2.cell? ⟨w.heap.size+1+1,1,none⟩=some (.int .u64 0):=hD2.b.c1;have k2:w2.cell? ⟨w.heap.size+1+1,2,none⟩=some (.int .u64 0):=hD2.b.c2;have kf:=hD2.b.fz;have nz:w.heap.size+1+1≠w2.heap.size:=(by omega);clear hs2 hD2 hb3 hE hD3)
     go_roundw
     case rel=>exact⟨j+1,some y,by omega,by simp,rfl,Lib.hid ⟨HT2.out.symm,by rw [HG.out];exact (HD3.out.set (Nat.le_refl _) hlt y).read (new_block _ _)⟩⟩
     case measure=>simp [intOf];omega
    | some l =>
     have cL2:∀W,Calls Tryz.prog 214 #[.agg #[.int .u64 (y.key:Nat),.int .u64 (y.val:Nat),.int .u64 (y.hash:Nat)],.agg #[.int .u64 (l.key:Nat),.int .u64 (l.val:Nat),.int .u64 (l.hash:Nat)]] W fun e w'=>e=.returned (.bool (lessB y.key y.hash l.key l.hash))∧Below W.heap.size W w':=fun W=>less_any y.key y.val y.hash l.key l.val l.hash W
     cases hl2:lessB y.key y.hash l.key l.hash
     ·rw [hl2] at cL2
      have HT2:=Lib.hid (show lfold hash key none (entsA t (j+1))=some l from by rw [HT.out];simp [comb,hl2]);clear HT hl2
      go_wp2_with (first
       | (go_at_call 213;(with_reducible refine cT2.mono ?_);clear cT2;rintro e w2 ⟨rfl,hs2⟩;have hD2:=HR.out.2.look (Nat.le_refl _) hlt hs2;have hb3:=new_block w2 (.cells #[.int .u64 (y.key:Nat),.int .u64 (y.val:Nat),.int .u64 (y.hash:Nat)] 44);have hE:=EBox.new y.key y.val y.hash w2;have hD3:=hD2.read hb3;have hz2:=hD2.b.lt;have HD3:=Lib.hid hD3;have b0:=hE.c0;have b1:=hE.c1;have b2:=hE.c2;have k0:(w2.alloc (.cells #[.int .u64 (y.key:Nat),.int .u64 (y.val:Nat),.int .u64 (y.hash:Nat)] 44)).cell? ⟨w.heap.size+1+1,0,none⟩=some (.int .u64 (l.key:Nat)):=hD3.b.c0;have k1:(w2.alloc (.cells #[.int .u64 (y.key:Nat),.int .u64 (y.val:Nat),.int .u64 (y.hash:Nat)] 44)).cell? ⟨w.heap.size+1+1,1,none⟩=some (.int .u64 (l.val:Nat)):=hD3.b.c1;have k2:(w2.alloc (.cells #[.int .u64 (y.key:Nat),.int .u64 (y.val:Nat),.int .u64 (y.hash:Nat)] 44)).cell? ⟨w.heap.size+1+1,2,none⟩=some (.int .u64 (l.hash:Nat)):=hD3.b.c2;clear hs2 hD2 hb3 hE hD3)
       | (go_at_call 214;(with_reducible refine (cL2 _).mono ?_);rintro e w4 ⟨rfl,hb4⟩))
      go_roundw
      case rel=>exact⟨j+1,some l,by omega,by simp,rfl,Lib.hid ⟨HT2.out.symm,by rw [HG.out];exact HD3.out.read hb4⟩⟩
      case measure=>simp [intOf];omega
     ·rw [hl2] at cL2
      have HT2:=Lib.hid (show lfold hash key none (entsA t (j+1))=some y from by rw [HT.out];simp [comb,hl2]);clear HT hl2
      go_wp2_with (first
       | (go_at_call 213;(with_reducible refine cT2.mono ?_);clear cT2;rintro e w2 ⟨rfl,hs2⟩;have hD2:=HR.out.2.look (Nat.le_refl _) hlt hs2;have hb3:=new_block w2 (.cells #[.int .u64 (y.key:Nat),.int .u64 (y.val:Nat),.int .u64 (y.hash:Nat)] 44);have hE:=EBox.new y.key y.val y.hash w2;have hD3:=hD2.read hb3;have hz2:=hD2.b.lt;have HD3:=Lib.hid hD3;have b0:=hE.c0;have b1:=hE.c1;have b2:=hE.c2;have k0:(w2.alloc (.cells #[.int .u64 (y.key:Nat),.int .u64 (y.val:Nat),.int .u64 (y.hash:Nat)] 44)).cell? ⟨w.heap.size+1+1,0,none⟩=some (.int .u64 (l.key:Nat)):=hD3.b.c0;have k1:(w2.alloc (.cells #[.int .u64 (y.key:Nat),.int .u64 (y.val:Nat),.int .u64 (y.hash:Nat)] 44)).cell? ⟨w.heap.size+1+1,1,none⟩=some (.int .u64 (l.val:Nat)):=hD3.b.c1;have k2:(w2.alloc (.cells #[.int .u64 (y.key:Nat),.int .u64 (y.val:Nat),.int .u64 (y.hash:Nat)] 44)).cell? ⟨w.heap.size+1+1,2,none⟩=some (.int .u64 (l.hash:Nat)):=hD3.b.c2;clear hs2 hD2 hb3 hD3)
       | (go_at_call 214;(with_reducible refine (cL2 _).mono ?_);rintro e w4 ⟨rfl,hb4⟩;have hD4:=HD3.out.read hb4;have HD4:=Lib.hid hD4;have d0:=(hE.keep hb4).c0;have d1:=(hE.keep hb4).c1;have d2:=(hE.keep hb4).c2;have j0:=hD4.b.c0;have j1:=hD4.b.c1;have j2:=hD4.b.c2;have jf:=hD4.b.fz;clear hD4 hE))
      go_roundw
      case rel=>exact⟨j+1,some y,by omega,by simp,rfl,Lib.hid ⟨HT2.out.symm,by rw [HG.out];exact HD4.out.set (Nat.le_refl _) hlt y⟩⟩
      case measure=>simp [intOf];omega
  ·obtain rfl:j=Y.N:=by omega
   have k0:=HR.out.2.b.c0;have k1:=HR.out.2.b.c1;have k2:=HR.out.2.b.c2;have r0:=HR.out.2.r.c0;have r1:=HR.out.2.r.c1;have r2:=HR.out.2.r.c2;have rf:=HR.out.2.r.fz;go_wp2;rw [←HR.out.1];exact bodyPost_ret (v:=.tuple #[group.entV (table.sK s) (sV s) (sH s),.bool s.isSome]) (by simp [results,Tryz.results218,go_sem,r0,r1,r2]) rfl ⟨rfl,((HR.out.2.ln.newset hlt (by simp) _).newset hlt (by simp) _).newset hlt (by simp) _⟩
theorem DAt.least{a:String→Addr}{w0:World}{Y:Lay}{D n1 d:Nat}{dp:Int}{q:Nat}{tk:Bool}{t:Nat→Tb}{fp:List Nat}{w:World}{L:Ln}{m:Mt}(h:DAt a w0 Y D n1 d dp q tk t fp w)(hl:LnAt L m w)(hd:∀b∈L.d,w0.heap.size≤b∧b∉fp)(hash key:Nat) :
  Calls Tryz.prog 218 #[.pointer (some ⟨D,0,none⟩),.agg #[.pointer L.p],.int .u64 (hash:Nat),.int .u64 (key:Nat)] w fun e w'=>e=.returned (.tuple #[group.entV (table.sK (lfold hash key none (entsA t (cut Y (rdy Y n1 q)).N))) (sV (lfold hash key none (entsA t (cut Y (rdy Y n1 q)).N))) (sH (lfold hash key none (entsA t (cut Y (rdy Y n1 q)).N))),.bool (lfold hash key none (entsA t (cut Y (rdy Y n1 q)).N)).isSome])∧DAt a w0 Y D n1 d dp q tk t fp w'∧LnStep [] L (L.see m (gS t (cut Y (rdy Y n1 q)).N)) w w':=by
 obtain⟨sB,GT,cT,pm,sU,hr,_,hg,hG,_⟩:=h.box;refine (least_core a w0 (cut Y (rdy Y n1 q)) t D GT cT hash key L m (by have:=cut_le h.N (rdy Y n1 q);have:=h.N;omega) w h.re hl (h.hd hd) hr.c4 hg fun e=>(hd GT e).2 hG).mono fun e w' ⟨he,hs⟩=>⟨he,h.aside (l:=L.d) (by simpa using hs.past) hd,hs⟩
end dual
namespace dual
open Go.ChangeShapes Go.WideShapes Go.ChangeAt Go.RowKit Go.Shelf swar under trap meter group probe lens tail call table evac
theorem ents_new(n k:Nat):ents (Tb.new n) k=[]:=by
 induction k with
 | zero=>rfl
 | succ k ih =>
  rw [ents_succ,ih]
  rfl
theorem entsA_cut{t:Nat→Tb}{n1:Nat}(ht:∀j,1≤j→t j=Tb.new n1):∀N,1≤N→entsA t N=entsA t 1
 | 0,h=>by omega
 | 1,_=>rfl
 | N+2,_=>by
  rw [entsA_succ,entsA_cut ht (N+1) (by omega),ht (N+1) (by omega),ents_new,List.append_nil]
theorem entsA_len{t:Nat→Tb}:∀N,(∀i,i<N→(t i).Ok)→((entsA t N).length:Int)=lenS t N
 | 0,_=>rfl
 | N+1,h=>by
  rw [entsA_succ,List.length_append,Int.natCast_add,entsA_len N fun i hi=>h i (by omega),sound.ents_length,←(h N (by omega)).len]
  rfl
section
variable {a:String→Addr} {w0:World} {Y:Lay} {D n1 d:Nat} {dp:Int} {q:Nat} {tk:Bool} {t:Nat→Tb} {fp:List Nat} {W W':World}
theorem DAt.fresh(h:DAt a w0 Y D n1 d dp q tk t fp W)(hr:rdy Y n1 q=false):∀j,1≤j→t j=Tb.new n1:=by
 rcases h with⟨_,_,Q,_,_,_,_,h,_⟩|⟨hq,_⟩
 ·exact h.tn
 ·rw [rdy_yes hq] at hr;cases hr
theorem DAt.sumn(h:DAt a w0 Y D n1 d dp q tk t fp W):sumK Y.N Y.n=Y.n 0+(Y.N-1)*n1:=by
 obtain⟨Q,p⟩:=h.pl
 rcases p.N with hN|hN
 ·rw [hN]
  show Y.n 0+Y.n 1=_;rw [p.e1 1 (by omega) (by omega)];omega
 ·rw [hN]
  show Y.n 0+Y.n 1+Y.n 2=_;rw [p.e1 1 (by omega) (by omega),p.e1 2 (by omega) (by omega)];omega
theorem DAt.ents(h:DAt a w0 Y D n1 d dp q tk t fp W):entsA t (cut Y (rdy Y n1 q)).N=entsA t Y.N:=by
 cases hr:rdy Y n1 q with
 | true=>rfl
 | false=>exact (entsA_cut (h.fresh hr) Y.N (by have:=h.N;omega)).symm
theorem DAt.lenA(h:DAt a w0 Y D n1 d dp q tk t fp W):lenS t (cut Y (rdy Y n1 q)).N=((entsA t Y.N).length:Int):=by
 rw [←h.ents,entsA_len _ h.re.ok]
end
structure LS(a:String→Addr)(w0:World)(Y:Lay)(D n1 d:Nat)(dp:Int)(R E G c Bm q:Nat)(t:Nat→Tb)(fp:List Nat)(nx br:Nat)(u:Nat→Tb)(k:Nat→Nat)(m:Mt)(W:World):Prop where
 da:DAt a w0 Y D n1 d dp q false t fp W
 rd:Rd w0 R E G c d nx br false Y u k W
 mt:MAt Bm 0 m W
 sp:∀b∈fp,w0.heap.size≤b∧b≠R∧b≠E∧b≠G∧b∉Y.rall∧b≠Bm
 hB:w0.heap.size≤Bm∧Bm≠R∧Bm≠E∧Bm≠G∧Bm∉Y.rall
 hR:w0.heap.size≤R∧w0.heap.size≤E
abbrev Ft(Y:Lay)(R E Bm:Nat)(fp:List Nat):List Nat:=Bm::R::E::(fp++Y.rall)
section
variable {a:String→Addr} {w0:World} {Y:Lay} {D n1 d:Nat} {dp:Int} {R E G c Bm q q':Nat} {t t':Nat→Tb} {fp fp':List Nat} {nx br nx' br':Nat} {u u':Nat→Tb} {k k':Nat→Nat} {m m':Mt} {W W':World}
theorem LS.bel(h:LS a w0 Y D n1 d dp R E G c Bm q t fp nx br u k m W):Below w0.heap.size w0 W:=h.rd.wn.bel
theorem LS.lts(h:LS a w0 Y D n1 d dp R E G c Bm q t fp nx br u k m W):(∀b∈Ft Y R E Bm fp,b<W.heap.size)∧G<W.heap.size:=by
 obtain⟨l1,l2,l3⟩:=h.rd.lR;refine⟨fun b hb=>?_,l3⟩;simp only [Ft,List.mem_cons,List.mem_append] at hb
 rcases hb with rfl|rfl|rfl|hb|hb
 ·exact h.mt.lt
 ·exact l1
 ·exact l2
 ·exact h.da.lts b hb
 ·exact h.rd.wn.lts hb
theorem LS.nft(h:LS a w0 Y D n1 d dp R E G c Bm q t fp nx br u k m W):∀b∈Ft Y R E Bm fp,w0.heap.size≤b:=fun b hb=>by
 simp only [Ft,List.mem_cons,List.mem_append] at hb
 rcases hb with rfl|rfl|rfl|hb|hb
 ·exact h.hB.1
 ·exact h.hR.1
 ·exact h.hR.2
 ·exact (h.sp b hb).1
 ·exact h.rd.wn.ge hb
theorem LS.read(h:LS a w0 Y D n1 d dp R E G c Bm q t fp nx br u k m W)(hb:Below W.heap.size W W'):LS a w0 Y D n1 d dp R E G c Bm q t fp nx br u k m W':=⟨h.da.read hb,h.rd.read hb,h.mt.below hb,h.sp,h.hB,h.hR⟩
theorem LS.aside{l:List Nat}(h:LS a w0 Y D n1 d dp R E G c Bm q t fp nx br u k m W)(hp:Past l W W')(hl:∀b∈l,w0.heap.size≤b∧b≠G∧b∉Ft Y R E Bm fp):LS a w0 Y D n1 d dp R E G c Bm q t fp nx br u k m W':=by
 have q:∀b∈l,b≠Bm∧b≠R∧b≠E∧b∉fp∧b∉Y.rall:=fun b hb=>by
  have:=(hl b hb).2.2;simp only [Ft,List.mem_cons,List.mem_append,not_or] at this;exact this
 exact⟨h.da.aside hp fun b hb=>⟨(hl b hb).1,(q b hb).2.2.2.1⟩,h.rd.aside hp fun b hb=>⟨(hl b hb).1,(q b hb).2.1,(q b hb).2.2.1,(hl b hb).2.1,(q b hb).2.2.2.2⟩,h.mt.past hp fun e=>(q _ e).1 rfl,h.sp,h.hB,h.hR⟩
theorem LS.box(h:LS a w0 Y D n1 d dp R E G c Bm q t fp nx br u k m W){X:Nat}(h0:w0.heap.size≤X)(hG:X≠G)(hX:X∉Ft Y R E Bm fp)(i:Nat)(v:Value):LS a w0 Y D n1 d dp R E G c Bm q t fp nx br u k m (W.setCell ⟨X,i,none⟩ v):=
 h.aside (l:=[X]) ((Past.refl [X] W).store (p:=⟨X,i,none⟩) (.inl (by simp)) v) (only ⟨h0,hG,hX⟩)
theorem LS.real(h:LS a w0 Y D n1 d dp R E G c Bm q t fp nx br u k m W)(hd:DAt a w0 Y D n1 d dp q' false t' fp' W')(hm:MAt Bm 0 m' W')(hp:Past (Bm::fp) W W')(hf:∀b∈fp',b∈fp∨W.heap.size≤b):LS a w0 Y D n1 d dp R E G c Bm q' t' fp' nx br u k m' W':=by
 obtain⟨l1,l2,l3⟩:=h.rd.lR;have lB:=h.mt.lt;have z0:=h.bel.size;refine⟨hd,h.rd.aside hp fun b hb=>?_,hm,fun b hb=>?_,h.hB,h.hR⟩
 ·rcases List.mem_cons.1 hb with rfl|hb
  ·exact h.hB
  ·have:=h.sp b hb
   exact⟨this.1,this.2.1,this.2.2.1,this.2.2.2.1,this.2.2.2.2.1⟩
 ·rcases hf b hb with h1|h1
  ·exact h.sp b h1
  ·exact⟨by omega,by omega,by omega,by omega,fun e=>by have:=h.rd.wn.lts e;omega,by omega⟩
theorem LS.doc(h:LS a w0 Y D n1 d dp R E G c Bm q t fp nx br u k m W)(hr:Rd w0 R E G c d nx' br' false Y u' k' W')(hp:Past (R::E::Y.rall) W W'):LS a w0 Y D n1 d dp R E G c Bm q t fp nx' br' u' k' m W':=by
 refine⟨h.da.aside hp fun b hb=>⟨?_,fun e=>?_⟩,hr,h.mt.past hp fun e=>?_,h.sp,h.hB,h.hR⟩
 ·rcases List.mem_cons.1 hb with rfl|hb
  ·exact h.hR.1
  ·rcases List.mem_cons.1 hb with rfl|hb
   ·exact h.hR.2
   ·exact h.rd.wn.ge hb
 ·have s:=h.sp b e
  rcases List.mem_cons.1 hb with rfl|hb
  ·exact s.2.1 rfl
  ·rcases List.mem_cons.1 hb with rfl|hb
   ·exact s.2.2.1 rfl
   ·exact s.2.2.2.2.1 hb
 ·rcases List.mem_cons.1 e with e|e
  ·exact h.hB.2.1 e
  ·rcases List.mem_cons.1 e with e|e
   ·exact h.hB.2.2.1 e
   ·exact h.hB.2.2.2.2 e
theorem LS.new(h:LS a w0 Y D n1 d dp R E G c Bm q t fp nx br u k m W){X:Nat}(hX:W.heap.size≤X):w0.heap.size≤X∧X≠G∧X∉Ft Y R E Bm fp:=
 ⟨Nat.le_trans h.bel.size hX,by have:=h.lts.2;omega,fun e=>by have:=h.lts.1 X e;omega⟩
theorem LS.hd(h:LS a w0 Y D n1 d dp R E G c Bm q t fp nx br u k m W):∀b∈(Ln.pr Bm 0).d,w0.heap.size≤b∧b∉fp:=fun b hb=>by
 obtain rfl:b=Bm:=by simpa [Ln.d] using hb
 exact⟨h.hB.1,fun e=>(h.sp _ e).2.2.2.2.2 rfl⟩
theorem LS.n64(h:LS a w0 Y D n1 d dp R E G c Bm q t fp nx br u k m W):∀i,i<(cut Y (rdy Y n1 q)).N→(t i).n≤64:=fun i hi=>by
 have:=h.da.re.ok i hi;exact okN_le this.n
theorem LS.few(h:LS a w0 Y D n1 d dp R E G c Bm q t fp nx br u k m W)(key hs:Nat):fndK t key hs (js (rdy Y n1 q) Y.N d hs)≤128:=by
 have h6:=h.n64;cases hr:rdy Y n1 q with
 | true =>
  rw [hr] at h6;exact fndK_le Y.N d h.da.N h6 true
 | false =>
  rw [hr] at h6;have h0:=h6 0 Nat.one_pos;have:=looks_le (t 0) key hs;show looks (t 0) key hs+(if isThere (t 0) key hs=true then 0 else 0)≤128
  split <;> omega
end
end dual
end Go.Proofs.YtdplhgpeggcmdaaGreatDoor
