/- Drawn: facts and laws for the walks. -/
import Derived.Test.YtdplhgpeggcmdaaGreatDoorKit
namespace Go.Proofs.YtdplhgpeggcmdaaGreatDoor
set_option linter.unusedSimpArgs false
set_option linter.unusedVariables false
namespace one
open Go Go.RowKit tail under
variable {P:Program}
theorem cnt_false(m:List Bool):∀k:Nat,cnt (List.replicate k false++m)=cnt m
 | 0=>rfl
 | k+1=>by rw [List.replicate_succ,List.cons_append];exact cnt_false m k
theorem cnt_true:∀k:Nat,cnt (List.replicate k true)=k
 | 0=>rfl
 | k+1=>by rw [List.replicate_succ];show cnt _+1=_;rw [cnt_true k]
theorem sel_false(m:List Bool):∀(k:Nat) (l:List Oper),k≤l.length→sel (List.replicate k false++m) l=sel m (l.drop k)
 | 0,l,_=>rfl
 | k+1,[],h=>absurd h (by simp)
 | k+1,o::l,h=>by
  rw [List.replicate_succ,List.cons_append];show sel (List.replicate k false++m) l=_;rw [sel_false m k l (by simpa using h),List.drop_succ_cons]
theorem rest{l:List Oper}(k:Nat){g:Nat}{S:Array Bool}{a:Act}{w:World}{Q:Exit→Act→World→Prop}(hB:checkB .any l.toArray (List.replicate k false++List.replicate g true) S=true)(hl:l.length=k+g)(hend:Region.ready .any l.toArray (setAll (List.replicate k false++List.replicate g true) 0 S)=[])
  (h:wpQuiet P l.toArray (fun w'=>∃n:Under w,w'=n.W) (fun a'=>∀n:Under w,Q .normal a' n.W) (l.drop k) a):wpAny P .any l.toArray Q g S a w:=by
 have e1:cnt (List.replicate k false++List.replicate g true)+0=g:=by rw [cnt_false,cnt_true];rfl
 have e2:sel (List.replicate k false++List.replicate g true) l=l.drop k:=by
  rw [sel_false _ _ _ (by omega),sel_all,List.take_of_length_le (by simp;omega)]
 have H:=wpAny_head (P:=P) (md:=.any) (C:=fun w'=>∃n:Under w,w'=n.W) (Q':=Q) (g:=0) (List.replicate k false++List.replicate g true) (l:=l) (listed:=S) (a:=a) (w:=w) hB ⟨⟨w,Below.refl _ _⟩,rfl⟩ (by
  rw [e2];refine quiet_mono (fun a' ha w' hw'=>?_) _ _ h;obtain⟨n,rfl⟩:=hw'
  exact⟨hend,ha n⟩)
 rw [e1] at H;exact H
def S1(l:List Oper)(k:Nat):Array Bool:=setAll (List.replicate k true) 0 (Array.replicate l.length false)
def oneB(l:List Oper)(k:Nat):Bool:=
 checkB .any l.toArray (List.replicate k true) (Array.replicate l.length false)&&decide (k<l.length)&&decide (Region.ready .any l.toArray (S1 l k)=[k]) &&
 checkB .any l.toArray (List.replicate (k+1) false++List.replicate (l.length-k-1) true) ((S1 l k).setIfInBounds k true) &&
 decide (Region.ready .any l.toArray (setAll (List.replicate (k+1) false++List.replicate (l.length-k-1) true) 0 ((S1 l k).setIfInBounds k true))=[])
theorem wp_region_one{id:Nat}{Q:Exit→Act→World→Prop}{a:Act}{w:World}{l:List Oper}(k:Nat)(o:Oper)(hm:P.follows .mixedOrders=true)(hB:oneB l k=true)(ho:l[k]?=some o)
  (h:wpQuiet P l.toArray (fun w'=>∃n:Under w,w'=n.W) (fun a'=>∀(n:Under w) (K:Act→World→Prop),(∀a2 w2,wpQuiet P l.toArray (fun w'=>∃n:Under w2,w'=n.W) (fun a3=>∀n:Under w2,Q .normal a3 n.W) (l.drop (k+1)) a2→K a2 w2)→if Region.wanted o (yielded l.toArray a'.tmps)=true then Oper.wp P o a' n.W K Q else K (a'.put o.dst undef) n.W) (l.take k) a):(Code.region id l.toArray true).wp P Q a w:=by
 unfold oneB at hB;simp only [Bool.and_eq_true,decide_eq_true_eq] at hB;obtain⟨⟨⟨⟨h1,h2⟩,h3⟩,h4⟩,h5⟩:=hB;refine wp_region_any hm ?_
 have H:=wpAny_head (P:=P) (md:=.any) (C:=fun w'=>∃n:Under w,w'=n.W) (Q':=Q) (g:=l.length-k) (List.replicate k true) (l:=l) (listed:=Array.replicate l.length false) (a:=a) (w:=w.drew) h1 ⟨⟨w.drew,drew_below w⟩,rfl⟩ (by
  rw [sel_all];refine quiet_mono (fun a' ha w' hw'=>?_) _ _ h;obtain⟨n,rfl⟩:=hw';rw [show l.length-k=(l.length-k-1)+1 by omega];refine wpAny_ready h3 (by simp) (AllReady.cons (o:=o) (by simpa using ho) (fun K hK=>?_) AllReady.nil)
  exact ha n K fun a2 w2 hq=>hK a2 w2 (rest (k+1) h4 (by omega) h5 hq))
 rw [cnt_true,show k+(l.length-k)=l.length by omega] at H
 simpa using H
end one
namespace stage
open Go Go.RowKit
variable {P:Program}
def D4(W0:World)(S1 S2 S3:World→Prop):Nat→World→Prop
 | 0=>fun w=>w=W0
 | 1=>S1
 | 2=>S2
 | _=>S3
theorem D4.all{W0:World}{S1 S2 S3:World→Prop}{p:World→Prop}(h0:p W0)(h1:∀w,S1 w→p w)(h2:∀w,S2 w→p w)(h3:∀w,S3 w→p w)(n:Un (D4 W0 S1 S2 S3)):p n.W:=by
 obtain⟨s,w,h⟩:=n
 match s,h with
 | 0,h=>cases h;exact h0
 | 1,h=>exact h1 w h
 | 2,h=>exact h2 w h
 | s+3,h=>exact h3 w h
theorem triple{W0:World}{f g k:FuncId}{x y z:Array Value}{v u r:Value}{S1 S2 S3:World→Prop}(c1:Calls P f x W0 fun e w'=>e=.returned v∧S1 w')(c2:∀w,S1 w→Calls P g y w fun e w'=>e=.returned u∧S2 w')(c3:∀w,S2 w→Calls P k z w fun e w'=>e=.returned r∧S3 w') :
  ∃D:Nat→World→Prop,D 0 W0∧(∀w,D 0 w→Calls P f x w fun e w'=>e=.returned v∧D 1 w')∧(∀w,D 1 w→Calls P g y w fun e w'=>e=.returned u∧D 2 w')∧(∀w,D 2 w→Calls P k z w fun e w'=>e=.returned r∧D 3 w')∧(∀w,D 3 w→S3 w) ∧
   (∀p:World→Prop,p W0→(∀w,S1 w→p w)→(∀w,S2 w→p w)→(∀w,S3 w→p w)→∀q:Un D,p q.W)∧Nonempty (Un D):=
 ⟨D4 W0 S1 S2 S3,rfl,fun w h=>by cases h;exact c1,c2,c3,fun _ h=>h,fun p h0 h1 h2 h3=>D4.all h0 h1 h2 h3,⟨⟨0,W0,rfl⟩⟩⟩
end stage
namespace movex
open Go Go.RowKit tail inround
variable {F:Fence} {n:Nat} {P:Program} {ops:Array Oper} {md:Region.Mode} {σ:Type} {D:σ→World→Prop} {M:Nat→σ→Value→σ→Prop}
structure Un{σ:Type}(D:σ→World→Prop) where
 s:σ
 W:World
 h:D s W
def stepUpon(F:Fence)(n:Nat)(P:Program)(C:Value→World→Prop):Result Next→Prop
 | .ok (.value u) w'=>C u w'
 | .ok .skip w'=>C undef w'
 | .ok (.enter f args) w'=>(F.depth.isSome=true→1≤n)∧CallsIn F (n-1) P f args w' fun e w''=>∃u,e=.returned u∧C u w''
 | _=>False
def asked(F:Fence)(P:Program)(D:σ→World→Prop)(o:Oper)(a:Act):Prop:=∀q:Un D,∀f,o.about P q.W a.eval=some f→F.fn f
def YR(P:Program)(ops:Array Oper)(D:σ→World→Prop)(o:Oper)(v:Value)(a:Act):Prop:=
 (Region.wanted o (yielded ops a.tmps)=true∧∀q:Un D,stage.pureUpon q.W v ((execOp a.eval o).run P q.W))∨(Region.wanted o (yielded ops a.tmps)=false∧v=undef)
def YM(F:Fence)(n:Nat)(P:Program)(ops:Array Oper)(D:σ→World→Prop)(o:Oper)(R:σ→Value→σ→Prop)(s0:σ)(x:Bool)(a:Act):Prop:=
 Region.wanted o (yielded ops a.tmps)=true∧∀s w,(x=true→s=s0)→D s w→stepUpon F n P (fun u w'=>∃s',R s u s'∧D s' w') ((execOp a.eval o).run P w)
theorem YM.any{F:Fence}{n:Nat}{P:Program}{ops:Array Oper}{D:σ→World→Prop}{o:Oper}{R:σ→Value→σ→Prop}{s0:σ}{x:Bool}{a:Act}(h:YM F n P ops D o R s0 x a)(hx:x=false)(s1:σ):YM F n P ops D o R s1 x a:=
 ⟨h.1,fun s w _ hd=>h.2 s w (fun e=>by rw [hx] at e;cases e) hd⟩
theorem YR.uniq[hn:Nonempty (Un D)]{o:Oper}{u v:Value}{a:Act}(h:YR P ops D o u a)(k:YR P ops D o v a):u=v:=by
 obtain⟨q⟩:=hn
 rcases h with⟨hw,h⟩|⟨hw,rfl⟩
 ·rcases k with⟨_,k⟩|⟨kw,_⟩
  ·have h:=h q
   have k:=k q;generalize (execOp a.eval o).run P q.W=r at h k
   match r,h,k with
   | .ok (.value x) w',h,k=>exact h.2.symm.trans k.2
   | .ok .skip w',h,k=>exact h.2.trans k.2.symm
  ·rw [hw] at kw;cases kw
 ·rcases k with⟨kw,_⟩|⟨_,rfl⟩
  ·rw [hw] at kw;cases kw
  ·rfl
theorem YR.move{o:Oper}{v:Value}{a a':Act}(h:YR P ops D o v a)(he:execOp a'.eval o=execOp a.eval o)(hw:Region.wanted o (yielded ops a'.tmps)=Region.wanted o (yielded ops a.tmps)):YR P ops D o v a':=by
 unfold YR at h ⊢;rw [he,hw];exact h
theorem YM.move{o:Oper}{R:σ→Value→σ→Prop}{s0:σ}{x:Bool}{a a':Act}(h:YM F n P ops D o R s0 x a)(he:execOp a'.eval o=execOp a.eval o)(hw:Region.wanted o (yielded ops a'.tmps)=Region.wanted o (yielded ops a.tmps)):YM F n P ops D o R s0 x a':=by
 unfold YM at h ⊢;rw [he,hw];exact h
theorem asked.move{o:Oper}{a a':Act}(h:asked F P D o a)(hb:∀w,o.about P w a'.eval=o.about P w a.eval):asked F P D o a':=fun q f hf=>h q f (by rw [←hb];exact hf)
def Step(F:Fence)(n:Nat)(P:Program)(ops:Array Oper)(D:σ→World→Prop)(M:Nat→σ→Value→σ→Prop)(xl:Nat)(m:Bool)(i:Nat)(s:σ)(o:Oper)(a:Act)(K:Act→σ→Prop):Prop:=
 asked F P D o a∧if m=true then YM F n P ops D o (M i) s (decide (i=xl)) a∧∀v s',M i s v s'→K (a.put o.dst v) s' else ∃v,YR P ops D o v a∧K (a.put o.dst v) s
theorem opIn_of_Step{xl:Nat}{m:Bool}{s:σ}{i:Nat}{o:Oper}{a:Act}{w:World}{K0:Act→σ→Prop}{K:Act→World→Prop}{Q':Exit→Act→World→Prop}(hnd:noDefer ops=true)(hi:ops[i]?=some o)(hy:Step F n P ops D M xl m i s o a K0)(hD:D s w)(hK:∀a' s' w',K0 a' s'→D s' w'→K a' w'):wpOpIn F n P ops Q' i K a w:=by
 unfold wpOpIn;simp only [hi];obtain⟨ha,hy⟩:=hy;have ha':=ha ⟨s,w,hD⟩;cases m
 ·simp only [Bool.false_eq_true,if_false] at hy
  obtain⟨v,hy,h0⟩:=hy
  rcases hy with⟨hw,h⟩|⟨hw,rfl⟩
  ·simp only [hw,if_true]
   have h3:=h ⟨s,w,hD⟩;refine⟨ha', ?_⟩;rw [Oper.semAt_eq _ _ _ (noDefer_at hnd hi)];generalize (execOp a.eval o).run P w=r at *
   match r,h3 with
   | .ok (.value u) w',h3=>obtain⟨e1,e2⟩:=h3;subst e1;subst e2;exact hK _ _ _ h0 hD
   | .ok .skip w',h3=>obtain⟨e1,e2⟩:=h3;subst e1;subst e2;exact hK _ _ _ h0 hD
  ·simp only [hw,Bool.false_eq_true,if_false];exact⟨ha',hK _ _ _ h0 hD⟩
 ·simp only [if_true] at hy
  obtain⟨⟨hw,h⟩,h0⟩:=hy;simp only [hw,if_true];have h3:=h s w (fun _=>rfl) hD;refine⟨ha', ?_⟩;rw [Oper.semAt_eq _ _ _ (noDefer_at hnd hi)];generalize (execOp a.eval o).run P w=r at *
  cases r with
  | halt x w'=>exact h3.elim
  | ok x w' =>
   cases x <;> simp only [stepUpon] at h3 <;> simp only [Oper.uponIn]
   case value u=>obtain⟨s',e1,e2⟩:=h3;exact hK _ _ _ (h0 _ _ e1) e2
   case skip=>obtain⟨s',e1,e2⟩:=h3;exact hK _ _ _ (h0 _ _ e1) e2
   case enter f args =>
    obtain⟨hd,hc⟩:=h3;exact⟨hd,hc.mono fun e w'' ⟨u,he,s',e1,e2⟩=>by subst he;exact hK _ _ _ (h0 _ _ e1) e2⟩
def wpM(F:Fence)(n:Nat)(P:Program)(md:Region.Mode)(ops:Array Oper)(D:σ→World→Prop)(M:Nat→σ→Value→σ→Prop)(xl:Nat)(hd mk:Nat→Bool)(L:Array Bool→Act→σ→Prop):Nat→Array Bool→Act→σ→Prop
 | 0,listed,a,s=>L listed a s
 | f+1,listed,a,s=>Region.ready md ops listed≠[]∧∀i∈Region.ready md ops listed,hd i=true∧∃o,ops[i]?=some o∧Step F n P ops D M xl (mk i) i s o a (wpM F n P md ops D M xl hd mk L f (listed.setIfInBounds i true))
theorem anyIn_of_M{xl:Nat}{hd mk:Nat→Bool}{g:Nat}{L:Array Bool→Act→σ→Prop}{Q':Exit→Act→World→Prop}(hnd:noDefer ops=true)(hL:∀listed a s,L listed a s→∀w,D s w→wpAnyIn F n P md ops Q' g listed a w) :
  ∀(f:Nat) (listed:Array Bool) (a:Act) (s:σ) (w:World),D s w→wpM F n P md ops D M xl hd mk L f listed a s→wpAnyIn F n P md ops Q' (f+g) listed a w
 | 0,listed,a,s,w,hw,h=>by rw [Nat.zero_add];exact hL _ _ _ h w hw
 | f+1,listed,a,s,w,hw,h=>by
  rw [show f+1+g=(f+g)+1 by omega];refine⟨fun h0=>absurd h0 h.1,fun i hi=>?_⟩;obtain⟨_,o,ho,hy⟩:=h.2 i hi;exact opIn_of_Step hnd ho hy hw fun a' s' w' hK hw'=>anyIn_of_M hnd hL f _ _ _ w' hw' hK
theorem wpM_first[Nonempty (Un D)]{xl:Nat}{hd mk:Nat→Bool}{i:Nat}{oi:Oper}{L:Array Bool→Act→σ→Prop}(hi:ops[i]?=some oi)(hsel:∀(j:Nat) (o:Oper) cs b,ops[j]?=some o→o.op≠.select cs b)(hin:hd i=true)
  (hdone:∀listed a s,L listed a s→∀j∈Region.ready md ops listed,hd j=false)
  (hM:∀k s,mk k=true→∃v s',M k s v s')
  (hch:mk i=true→∀j oj,ops[j]?=some oj→mk j=true→i<j→(∃e∈oj.after,Region.binds md e=true∧e.on=i)∨(i≠xl∧j≠xl∧∀s u sj v s2,M j s u sj→M i sj v s2→∃s',M i s v s'∧M j s' u s2)) :
  ∀(f:Nat) (listed:Array Bool) (a:Act) (s:σ),Closed md ops listed→(∀t,t<ops.size→hd t=false→listed.getD t true=false→(ups md ops i ops.size).getD t false=true) →
   (mk i=true→∀j,j<i→mk j=true→listed.getD j true=true) →
   (∀j oj,ops[j]?=some oj→j≠i→listed.getD j true=false→(∀e∈oj.after,Region.binds md e=true→e.on≠i)→oi.apart ops oj=true) →
   i∈Region.ready md ops listed→Step F n P ops D M xl (mk i) i s oi a (wpM F n P md ops D M xl hd mk L f (listed.setIfInBounds i true))→wpM F n P md ops D M xl hd mk L (f+1) listed a s:=by
 intro f
 have key:∀(listed:Array Bool),Closed md ops listed→(∀t,t<ops.size→hd t=false→listed.getD t true=false→(ups md ops i ops.size).getD t false=true)→i∈Region.ready md ops listed→∀j∈Region.ready md ops listed,hd j=true:=by
  intro listed hc ht hr j hj;cases hh:hd j with
  | true=>rfl
  | false =>
   have hju:=(mem_ready.1 hj).1;obtain⟨o,ho,_⟩:=(mem_ready.1 hj).2;have hne:j≠i:=fun e=>by rw [e,hin] at hh;cases hh
   exact absurd hj (not_ready hc (getD_both (mem_ready.1 hr).1) (ht j (Array.getElem?_eq_some_iff.1 ho).1 hh hju) hne)
 induction f with
 | zero =>
  intro listed a s hc ht _ _ hr H;refine⟨fun h=>(by rw [h] at hr;cases hr),fun j hj=>?_⟩;refine⟨key listed hc ht hr j hj, ?_⟩
  by_cases hji:j=i
  ·subst hji;exact⟨oi,hi,H⟩
  ·exfalso
   have h1:hd j=false:=by
    have H2:=H.2;cases hm:mk i
    ·rw [hm] at H2
     simp only [Bool.false_eq_true,if_false] at H2;obtain⟨v,_,hL⟩:=H2;exact hdone _ _ _ hL j (ready_mono hj hji)
    ·rw [hm] at H2
     simp only [if_true] at H2;obtain⟨_,hL⟩:=H2;obtain⟨v,s',hR⟩:=hM i s hm;exact hdone _ _ _ (hL v s' hR) j (ready_mono hj hji)
   rw [key listed hc ht hr j hj] at h1;cases h1
 | succ f ih =>
  intro listed a s hc ht hbe hfree hr H;refine⟨fun h=>(by rw [h] at hr;cases hr),fun j hj=>?_⟩;refine⟨key listed hc ht hr j hj, ?_⟩
  by_cases hji:j=i
  ·subst hji;exact⟨oi,hi,H⟩
  ·obtain⟨hjun,oj,hoj,hall⟩:=mem_ready.1 hj
   have hnot:∀e∈oj.after,Region.binds md e=true→e.on≠i:=fun e he hb heq=>by
    have h1:=hall e he hb;rw [heq,getD_both (mem_ready.1 hr).1] at h1;cases h1
   have hap:=hfree j oj hoj hji hjun hnot;obtain⟨p1,p2,p3⟩:=Oper.apart_spec hap
   have onem:mk i=true→mk j=true→i≠xl∧j≠xl∧∀s u sj v s2,M j s u sj→M i sj v s2→∃s',M i s v s'∧M j s' u s2:=fun hmi hmj=>by
    rcases Nat.lt_or_ge i j with hl|hl
    ·rcases hch hmi j oj hoj hmj hl with⟨e,he,hb,hon⟩|h
     ·exact absurd hon (hnot e he hb)
     ·exact h
    ·have:=hbe hmi j (by omega) hmj
     rw [hjun] at this;cases this
   have un:∀k,(listed.setIfInBounds j true).getD k true=false→listed.getD k true=false:=fun k hk=>by
    by_cases hjk:j=k
    ·subst hjk;exact hjun
    ·rw [getD_set_ne true hjk] at hk;exact hk
   have go:∀(u:Value) (s':σ),Step F n P ops D M xl (mk i) i s' oi (a.put oj.dst u) (wpM F n P md ops D M xl hd mk L f ((listed.setIfInBounds j true).setIfInBounds i true))→wpM F n P md ops D M xl hd mk L (f+1) (listed.setIfInBounds j true) (a.put oj.dst u) s':=fun u s' hS =>
    ih (listed.setIfInBounds j true) (a.put oj.dst u) s' (hc.set hj) (fun t ht1 ht2 ht3=>ht t ht1 ht2 (un t ht3)) (fun hmi k hk hmk=>by
     cases hx:(listed.setIfInBounds j true).getD k true with
     | true=>rfl
     | false =>
      have h1:=hbe hmi k hk hmk
      rw [un k hx] at h1;cases h1) (fun k ok hk hki hun hno=>hfree k ok hk hki (un k hun) hno) (ready_mono hr (Ne.symm hji)) hS
   have ej:∀v,execOp a.eval oj=execOp (a.put oi.dst v).eval oj:=fun v=>(execOp_put oj (fun cs b=>hsel j oj cs b hoj) a oi.dst v p1).symm
   have wj:∀v,Region.wanted oj (yielded ops a.tmps)=Region.wanted oj (yielded ops (a.put oi.dst v).tmps):=fun v=>(wanted_put oj a oi.dst v p1).symm
   have bj:∀v w,oj.about P w a.eval=oj.about P w (a.put oi.dst v).eval:=fun v w=>(about_put oj w a oi.dst v p1).symm
   have ei:∀u,execOp (a.put oj.dst u).eval oi=execOp a.eval oi:=fun u=>execOp_put oi (fun cs b=>hsel i oi cs b hi) a oj.dst u p3
   have wi:∀u,Region.wanted oi (yielded ops (a.put oj.dst u).tmps)=Region.wanted oi (yielded ops a.tmps):=fun u=>wanted_put oi a oj.dst u p3
   have bi:∀u w,oi.about P w (a.put oj.dst u).eval=oi.about P w a.eval:=fun u w=>about_put oi w a oj.dst u p3
   have cm:Array.setIfInBounds (Array.setIfInBounds listed i true) j true=Array.setIfInBounds (Array.setIfInBounds listed j true) i true:=Array.setIfInBounds_comm _ _ (Ne.symm hji);refine⟨oj,hoj, ?_⟩;obtain⟨hai,H2⟩:=H;cases hm:mk i with
   | false =>
    rw [hm] at H2;simp only [Bool.false_eq_true,if_false] at H2;obtain⟨v,hyi,hW⟩:=H2;obtain⟨_,oj',hoj',haj,hS⟩:=hW.2 j (ready_mono hj hji);obtain rfl:oj=oj':=Option.some.inj (hoj.symm.trans hoj');refine⟨haj.move (bj v), ?_⟩;cases hmj:mk j with
    | false =>
     rw [hmj] at hS;simp only [Bool.false_eq_true,if_false] at hS ⊢;obtain⟨u,hyj,hK⟩:=hS;refine⟨u,hyj.move (ej v) (wj v),go u s ⟨hai.move (bi u), ?_⟩⟩;rw [hm];simp only [Bool.false_eq_true,if_false];refine⟨v,hyi.move (ei u) (wi u), ?_⟩;rw [←cm,←Act.put_comm a v u p2];exact hK
    | true =>
     rw [hmj] at hS;simp only [if_true] at hS ⊢;obtain⟨hyj,hK⟩:=hS;refine⟨hyj.move (ej v) (wj v),fun u s' hR=>go u s' ⟨hai.move (bi u), ?_⟩⟩;rw [hm];simp only [Bool.false_eq_true,if_false];refine⟨v,hyi.move (ei u) (wi u), ?_⟩;rw [←cm,←Act.put_comm a v u p2];exact hK u s' hR
   | true =>
    rw [hm] at H2;simp only [if_true] at H2;obtain⟨hyi,hW⟩:=H2;obtain⟨v0,s0,hR0⟩:=hM i s hm;obtain⟨_,oj',hoj',haj,hS⟩:=(hW v0 s0 hR0).2 j (ready_mono hj hji);obtain rfl:oj=oj':=Option.some.inj (hoj.symm.trans hoj');refine⟨haj.move (bj v0), ?_⟩;cases hmj:mk j with
    | false =>
     rw [hmj] at hS;simp only [Bool.false_eq_true,if_false] at hS;obtain⟨u,hyj,_⟩:=hS;have hyj0:=hyj.move (ej v0) (wj v0);simp only [Bool.false_eq_true,if_false];refine⟨u,hyj0,go u s ⟨hai.move (bi u), ?_⟩⟩;rw [hm];simp only [if_true];refine⟨hyi.move (ei u) (wi u),fun v s' hR=>?_⟩;obtain⟨_,oj',hoj',_,hS⟩:=(hW v s' hR).2 j (ready_mono hj hji);obtain rfl:oj=oj':=Option.some.inj (hoj.symm.trans hoj');rw [hmj] at hS;simp only [Bool.false_eq_true,if_false] at hS;obtain⟨u',hyj',hK⟩:=hS;obtain rfl:u=u':=hyj0.uniq (hyj'.move (ej v) (wj v));rw [←cm,←Act.put_comm a v u p2];exact hK
    | true =>
     rw [hmj] at hS;simp only [if_true] at hS ⊢;obtain⟨nxi,nxj,oneM⟩:=onem hm hmj;refine⟨(hS.1.any (decide_eq_false nxj) s).move (ej v0) (wj v0),fun u sj hRj=>go u sj ⟨hai.move (bi u), ?_⟩⟩;rw [hm];simp only [if_true];refine⟨(hyi.any (decide_eq_false nxi) sj).move (ei u) (wi u),fun v s2 hRi=>?_⟩;obtain⟨s',h1,h2⟩:=oneM s u sj v s2 hRj hRi;obtain⟨_,oj',hoj',_,hS'⟩:=(hW v s' h1).2 j (ready_mono hj hji);obtain rfl:oj=oj':=Option.some.inj (hoj.symm.trans hoj');rw [hmj] at hS';simp only [if_true] at hS';rw [←cm,←Act.put_comm a v u p2];exact hS'.2 u s2 h2
def wpT(F:Fence)(n:Nat)(P:Program)(ops:Array Oper)(D:σ→World→Prop)(M:Nat→σ→Value→σ→Prop)(xl:Nat)(Q:Act→σ→Prop):Nat→List Bool→List Oper→Act→σ→Prop
 | _,_,[],a,s=>Q a s
 | k,m::ms,o::r,a,s=>Step F n P ops D M xl m k s o a (wpT F n P ops D M xl Q (k+1) ms r)
 | _,[],_::_,_,_=>False
open move (movB setN movB_done)
theorem Step.mono{xl:Nat}{m:Bool}{i:Nat}{s:σ}{o:Oper}{a:Act}{K K':Act→σ→Prop}(h:∀a s,K a s→K' a s)(hs:Step F n P ops D M xl m i s o a K):Step F n P ops D M xl m i s o a K':=by
 refine⟨hs.1, ?_⟩;have hs:=hs.2;cases m
 ·simp only [Bool.false_eq_true,if_false] at hs ⊢
  obtain⟨v,h1,h2⟩:=hs;exact⟨v,h1,h _ _ h2⟩
 ·simp only [if_true] at hs ⊢
  obtain⟨h1,h2⟩:=hs;exact⟨h1,fun v s' hR=>h _ _ (h2 v s' hR)⟩
theorem wpM_lex[Nonempty (Un D)]{xl:Nat}{hd mk:Nat→Bool}{Lq:Act→σ→Prop}{FF:Array Bool}(hs:Region.noSelect ops=true)(hF:∀j∈Region.ready md ops FF,hd j=false)(hM:∀k s,mk k=true→∃v s',M k s v s')(hch:∀i,mk i=true→∀j oj,ops[j]?=some oj→mk j=true→i<j→(∃e∈oj.after,Region.binds md e=true∧e.on=i)∨(i≠xl∧j≠xl∧∀s u sj v s2,M j s u sj→M i sj v s2→∃s',M i s v s'∧M j s' u s2)) :
  ∀(l:List Oper) (m:List Bool) (k:Nat) (listed:Array Bool) (a:Act) (s:σ),(∀j,j<l.length→l[j]?=ops[k+j]?)→(∀j,j<l.length→m[j]?=some (mk (k+j)))→(∀j,j<k→listed.getD j true=true)→Closed md ops listed→movB md ops hd l.length k listed=true→setN l.length k listed=FF→wpT F n P ops D M xl Lq k m l a s →
  wpM F n P md ops D M xl hd mk (fun listed' a' s'=>listed'=FF∧Lq a' s') l.length listed a s
 | [],m,_,_,_,_,_,_,_,_,_,hset,h=>⟨hset,by cases m <;> exact h⟩
 | o :: l,m,k,listed,a,s,hl,hm,hbe,hc,hB,hset,h=>by
  have h0:ops[k]?=some o:=by simpa using (hl 0 (by simp)).symm
  simp only [List.length_cons,movB,Bool.and_eq_true] at hB;obtain⟨⟨⟨⟨hr,hf⟩,hk⟩,ht⟩,hB'⟩:=hB;have hr':k∈Region.ready md ops listed:=by simpa using hr
  have hm0:=hm 0 (by simp)
  have hbe':∀j,j<k+1→(listed.setIfInBounds k true).getD j true=true:=fun j hj=>by
   by_cases hjk:k=j
   ·subst hjk
    rcases Nat.lt_or_ge k listed.size with h'|h'
    ·simp [h']
    ·simp [h']
   ·rw [getD_set_ne true hjk];exact hbe j (by omega)
  have hl':∀j,j<l.length→l[j]?=ops[k+1+j]?:=fun j hj=>by have:=hl (j+1) (by simpa using hj);simpa [Nat.add_assoc,Nat.add_comm 1 j] using this
  have ht':∀t,t<ops.size→hd t=false→listed.getD t true=false→(ups md ops k ops.size).getD t false=true:=fun t ht1 ht2 ht3=>by
   have h3:=List.all_eq_true.1 ht t (List.mem_range.2 ht1);rw [ht2,ht3] at h3
   simpa using h3
  match m,hm0,hm,h with
  | [],hm0,_,_=>simp at hm0
  | b::m,hm0,hm,h =>
   have hb:b=mk k:=by simpa using hm0
   have hm':∀j,j<l.length→m[j]?=some (mk (k+1+j)):=fun j hj=>by have:=hm (j+1) (by simpa using hj);simpa [Nat.add_assoc,Nat.add_comm 1 j] using this
   refine wpM_first h0 (Region.noSelect_spec hs) hk (fun _ _ _ hL=>by rw [hL.1];exact hF) hM (hch k) l.length listed a s hc ht' (fun _ j hj _=>hbe j hj) (Region.free_spec h0 hf) hr' ?_;rw [←hb];exact Step.mono (fun a' s' hK=>wpM_lex hs hF hM hch l m (k+1) _ a' s' hl' hm' hbe' (hc.set hr') hB' (by simpa [setN] using hset) hK) h
def pairsB(md:Region.Mode)(ops:Array Oper)(m:List Bool)(fr:List (Nat×Nat))(xl:Nat):Bool:=
 (List.range ops.size).all fun i => !(m.getD i false) || (List.range ops.size).all fun j => !(m.getD j false) || !(decide (i < j)) || (fr.contains (i,j) && decide (i ≠ xl) && decide (j ≠ xl)) || match ops[j]? with
  | some oj=>oj.after.any fun e=>Region.binds md e&&e.on==i
  | none=>true
theorem region[Nonempty (Un D)]{id:Nat}{Q:Exit→Act→World→Prop}{a:Act}{w:World}{l:List Oper}(M:Nat→σ→Value→σ→Prop)(xl k:Nat)(m:List Bool)(fr:List (Nat×Nat))(hnd:noDefer l.toArray=true)(hm:P.follows .mixedOrders=true)
  (hB:(Region.noSelect l.toArray&&closedB .any l.toArray (Array.replicate l.length false)&&decide (k≤l.length)&&pairsB .any l.toArray m fr xl&&m.length==k&&movB .any l.toArray (fun t=>decide (t<k)) k 0 (Array.replicate l.length false)&&Region.seqB .any l.toArray (l.drop k).length k (setN k 0 (Array.replicate l.length false)))=true)(hM:∀k s,m.getD k false=true→∃v s',M k s v s')(hfr:∀i j,(i,j)∈fr→∀s u sj v s2,M j s u sj→M i sj v s2→∃s',M i s v s'∧M j s' u s2)(s0:σ)(hC:D s0 w.drew)
  (h:wpT F n P l.toArray D M xl (fun a' s=>∀w',D s w'→wpListIn F n P l.toArray Q (l.drop k) a' w') 0 m (l.take k) a s0):(Code.region id l.toArray true).wpIn F n P Q a w:=by
 simp only [Bool.and_eq_true,decide_eq_true_eq,beq_iff_eq] at hB;obtain⟨⟨⟨⟨⟨⟨h1,h2⟩,h3⟩,h4⟩,h5⟩,h6⟩,h7⟩:=hB;refine wpIn_region_any hm ?_;have hlen:(l.take k).length=k:=by simp;omega
 have X:=wpM_lex (F:=F) (n:=n) (P:=P) (D:=D) (M:=M) (xl:=xl) (md:=.any) (hd:=fun t=>decide (t<k)) (mk:=fun t=>m.getD t false) (Lq:=fun a' s=>∀w',D s w'→wpListIn F n P l.toArray Q (l.drop k) a' w') (FF:=setN k 0 (Array.replicate l.length false)) h1 (movB_done k 0 _ h6) (fun k s hk=>hM k s hk)
  (fun i hi j oj hoj hj hij=>?_) (l.take k) m 0 (Array.replicate l.length false) a s0 (fun j hj=>by rw [List.getElem?_take,if_pos (by omega)];simp) (fun j hj=>by simp [List.getD_eq_getElem?_getD,List.getElem?_eq_getElem (show j<m.length by omega)]) (fun j hj=>by omega) (closed_of h2) (by rw [hlen];exact h6) (by rw [hlen]) h
 ·have H:=anyIn_of_M (Q':=Q) (g:=(l.drop k).length) hnd (fun listed' a' s hL w' hw'=>by rw [hL.1];exact wpAnyIn_of_seq (l.drop k) k _ a' w' (fun j=>by simp [List.getElem?_drop]) h7 (hL.2 w' hw')) _ _ _ _ w.drew hC X
  rw [hlen,show k+(l.drop k).length=l.length by simp;omega] at H
  simpa using H
 ·have hjl:j<l.toArray.size:=(Array.getElem?_eq_some_iff.1 hoj).1
  have hi':m.getD i false=true:=hi;have hj':m.getD j false=true:=hj;have hil:i<l.toArray.size:=by omega
  have g1:=List.all_eq_true.1 h4 i (List.mem_range.2 hil);rw [hi'] at g1;simp only [Bool.not_true,Bool.false_or] at g1;have g2:=List.all_eq_true.1 g1 j (List.mem_range.2 hjl);rw [hj',decide_eq_true hij,hoj] at g2;simp only [Bool.not_true,Bool.false_or,Bool.or_eq_true] at g2
  rcases g2 with g2|g2
  ·simp only [Bool.and_eq_true,decide_eq_true_eq] at g2
   exact .inr ⟨g2.1.2,g2.2,hfr i j (by simpa using g2.1.1)⟩
  ·obtain⟨e,he,hb⟩:=Array.any_eq_true'.1 g2
   simp only [Bool.and_eq_true,beq_iff_eq] at hb;exact .inl ⟨e,he,hb.1,hb.2⟩
theorem nil_step{xl:Nat}{Q:Act→σ→Prop}{k:Nat}{m:List Bool}{a:Act}{s:σ}(h:Q a s):wpT F n P ops D M xl Q k m [] a s:=by cases m <;> exact h
theorem pure_step{xl:Nat}{Q:Act→σ→Prop}{k:Nat}{m:List Bool}{o:Oper}{r:List Oper}{a:Act}{s:σ}(ha:asked F P D o a)
  (h:∀K:Act→Prop,(∀a,wpT F n P ops D M xl Q (k+1) m r a s→K a)→if Region.wanted o (yielded ops a.tmps) then (∃v,(∀q:Un D,stage.pureUpon q.W v ((execOp a.eval o).run P q.W))∧K (a.put o.dst v)) else K (a.put o.dst undef)):wpT F n P ops D M xl Q k (false::m) (o::r) a s:=by
 have h':=h _ fun _ h=>h
 refine⟨ha, ?_⟩;simp only [Bool.false_eq_true,if_false]
 by_cases hw:Region.wanted o (yielded ops a.tmps)=true
 ·simp only [hw,if_true] at h'
  obtain⟨v,h1,h2⟩:=h';exact⟨v,.inl ⟨hw,h1⟩,h2⟩
 ·simp only [hw,Bool.false_eq_true,if_false] at h'
  exact⟨undef,.inr ⟨by simpa using hw,rfl⟩,h'⟩
theorem move_step{xl:Nat}{Q:Act→σ→Prop}{k:Nat}{m:List Bool}{o:Oper}{r:List Oper}{a:Act}{s:σ}(ha:asked F P D o a)(hw:Region.wanted o (yielded ops a.tmps)=true)(h1:∀s w,D s w→stepUpon F n P (fun u w'=>∃s',M k s u s'∧D s' w') ((execOp a.eval o).run P w))
  (h:∀v s',M k s v s'→∀K:Act→Prop,(∀a,wpT F n P ops D M xl Q (k+1) m r a s'→K a)→K (a.put o.dst v)):wpT F n P ops D M xl Q k (true::m) (o::r) a s:=
 ⟨ha,by simp only [if_true];exact⟨⟨hw,fun s w _=>h1 s w⟩,fun v s' hR=>h v s' hR _ fun _ h=>h⟩⟩
theorem last_step{Q:Act→σ→Prop}{k:Nat}{m:List Bool}{o:Oper}{r:List Oper}{a:Act}{s:σ}(ha:asked F P D o a)(hw:Region.wanted o (yielded ops a.tmps)=true)(h1:∀w,D s w→stepUpon F n P (fun u w'=>∃s',M k s u s'∧D s' w') ((execOp a.eval o).run P w))
  (h:∀v s',M k s v s'→∀K:Act→Prop,(∀a,wpT F n P ops D M k Q (k+1) m r a s'→K a)→K (a.put o.dst v)):wpT F n P ops D M k Q k (true::m) (o::r) a s:=
 ⟨ha,by simp only [if_true];exact⟨⟨hw,fun s1 w he hd=>by obtain rfl:=he (by simp);exact h1 w hd⟩,fun v s' hR=>h v s' hR _ fun _ h=>h⟩⟩
end movex
end Go.Proofs.YtdplhgpeggcmdaaGreatDoor
