/- Regs: facts and laws for the walks. -/
import Derived.Test.YtdplhgpeggcmdaaGreatDoorDrawn
namespace Go.Proofs.YtdplhgpeggcmdaaGreatDoor
set_option linter.unusedSimpArgs false
set_option linter.unusedVariables false
namespace moves
open Go Go.RowKit tail inround
variable {F:Fence} {n:Nat} {P:Program} {ops:Array Oper} {md:Region.Mode} {σ:Type} {D:σ→World→Prop} {M:Nat→σ→Value→σ→Prop}
structure Un{σ:Type}(D:σ→World→Prop) where
 s:σ
 W:World
 h:D s W
def stepUpon(F:Fence)(n:Nat)(P:Program)(C:Value→World→Prop):Result Next→Prop
 | .ok (.value u) w'=>C u w'
 | .ok (.enter f args) w'=>(F.depth.isSome=true→1≤n)∧CallsIn F (n-1) P f args w' fun e w''=>∃u,e=.returned u∧C u w''
 | _=>False
def asked(F:Fence)(P:Program)(D:σ→World→Prop)(o:Oper)(a:Act):Prop:=∀q:Un D,∀f,o.about P q.W a.eval=some f→F.fn f
def YR(P:Program)(ops:Array Oper)(D:σ→World→Prop)(o:Oper)(v:Value)(a:Act):Prop:=
 (Region.wanted o (yielded ops a.tmps)=true∧∀q:Un D,stage.pureUpon q.W v ((execOp a.eval o).run P q.W))∨(Region.wanted o (yielded ops a.tmps)=false∧v=undef)
def YM(F:Fence)(n:Nat)(P:Program)(ops:Array Oper)(D:σ→World→Prop)(o:Oper)(R:σ→Value→σ→Prop)(a:Act):Prop:=
 Region.wanted o (yielded ops a.tmps)=true∧∀s w,D s w→stepUpon F n P (fun u w'=>∃s',R s u s'∧D s' w') ((execOp a.eval o).run P w)
theorem asked.move{o:Oper}{a a':Act}(h:asked F P D o a)(hb:∀w,o.about P w a'.eval=o.about P w a.eval):asked F P D o a':=fun q f hf=>h q f (by rw [←hb];exact hf)
def Step(F:Fence)(n:Nat)(P:Program)(ops:Array Oper)(D:σ→World→Prop)(M:Nat→σ→Value→σ→Prop)(m:Bool)(i:Nat)(s:σ)(o:Oper)(a:Act)(K:Act→σ→Prop):Prop:=
 asked F P D o a∧if m=true then YM F n P ops D o (M i) a∧∀v s',M i s v s'→K (a.put o.dst v) s' else ∃v,YR P ops D o v a∧K (a.put o.dst v) s
def wpM(F:Fence)(n:Nat)(P:Program)(md:Region.Mode)(ops:Array Oper)(D:σ→World→Prop)(M:Nat→σ→Value→σ→Prop)(hd mk:Nat→Bool)(L:Array Bool→Act→σ→Prop):Nat→Array Bool→Act→σ→Prop
 | 0,listed,a,s=>L listed a s
 | f+1,listed,a,s=>Region.ready md ops listed≠[]∧∀i∈Region.ready md ops listed,hd i=true∧∃o,ops[i]?=some o∧Step F n P ops D M (mk i) i s o a (wpM F n P md ops D M hd mk L f (listed.setIfInBounds i true))
def wpT(F:Fence)(n:Nat)(P:Program)(ops:Array Oper)(D:σ→World→Prop)(M:Nat→σ→Value→σ→Prop)(Q:Act→σ→Prop):Nat→List Bool→List Oper→Act→σ→Prop
 | _,_,[],a,s=>Q a s
 | k,m::ms,o::r,a,s=>Step F n P ops D M m k s o a (wpT F n P ops D M Q (k+1) ms r)
 | _,[],_::_,_,_=>False
open move (movB setN movB_done)
def pairsB(md:Region.Mode)(ops:Array Oper)(m:List Bool)(fr:List (Nat×Nat)):Bool:=
 (List.range ops.size).all fun i => !(m.getD i false) || (List.range ops.size).all fun j => !(m.getD j false) || !(decide (i < j)) || fr.contains (i,j) || match ops[j]? with
  | some oj=>oj.after.any fun e=>Region.binds md e&&e.on==i
  | none=>true
end moves
namespace late
open Go Go.RowKit tail inround
open moves (Un stepUpon asked asked.move)
variable {F:Fence} {n:Nat} {P:Program} {ops:Array Oper} {md:Region.Mode} {σ:Type} {D:σ→World→Prop} {M:Nat→σ→Value→σ→Prop} {R:Nat→Sem Next→σ→Prop} {E:σ→Prop}
def YR(P:Program)(ops:Array Oper)(D:σ→World→Prop)(C:Sem Next→σ→Prop)(o:Oper)(v:Value)(a:Act):Prop:=
 (Region.wanted o (yielded ops a.tmps)=true∧∀q:Un D,C (execOp a.eval o) q.s→stage.pureUpon q.W v ((execOp a.eval o).run P q.W))∨(Region.wanted o (yielded ops a.tmps)=false∧v=undef)
def YM(F:Fence)(n:Nat)(P:Program)(ops:Array Oper)(D:σ→World→Prop)(C:Sem Next→σ→Prop)(o:Oper)(R:σ→Value→σ→Prop)(a:Act):Prop:=
 Region.wanted o (yielded ops a.tmps)=true∧∀s w,C (execOp a.eval o) s→D s w→stepUpon F n P (fun u w'=>∃s',R s u s'∧D s' w') ((execOp a.eval o).run P w)
theorem YR.uniq{C:Sem Next→σ→Prop}{o:Oper}{u v:Value}{a:Act}(hn:∃q:Un D,C (execOp a.eval o) q.s)(h:YR P ops D C o u a)(k:YR P ops D C o v a):u=v:=by
 obtain⟨q,hq⟩:=hn
 rcases h with⟨hw,h⟩|⟨hw,rfl⟩
 ·rcases k with⟨_,k⟩|⟨kw,_⟩
  ·have h:=h q hq
   have k:=k q hq;generalize (execOp a.eval o).run P q.W=r at h k
   match r,h,k with
   | .ok (.value x) w',h,k=>exact h.2.symm.trans k.2
   | .ok .skip w',h,k=>exact h.2.trans k.2.symm
  ·rw [hw] at kw;cases kw
 ·rcases k with⟨kw,_⟩|⟨_,rfl⟩
  ·rw [hw] at kw;cases kw
  ·rfl
theorem YR.move{C:Sem Next→σ→Prop}{o:Oper}{v:Value}{a a':Act}(h:YR P ops D C o v a)(he:execOp a'.eval o=execOp a.eval o)(hw:Region.wanted o (yielded ops a'.tmps)=Region.wanted o (yielded ops a.tmps)):YR P ops D C o v a':=by
 unfold YR at h ⊢;rw [he,hw];exact h
theorem YM.move{C:Sem Next→σ→Prop}{o:Oper}{R:σ→Value→σ→Prop}{a a':Act}(h:YM F n P ops D C o R a)(he:execOp a'.eval o=execOp a.eval o)(hw:Region.wanted o (yielded ops a'.tmps)=Region.wanted o (yielded ops a.tmps)):YM F n P ops D C o R a':=by
 unfold YM at h ⊢;rw [he,hw];exact h
def Step(F:Fence)(n:Nat)(P:Program)(ops:Array Oper)(D:σ→World→Prop)(M:Nat→σ→Value→σ→Prop)(R:Nat→Sem Next→σ→Prop)(m:Bool)(i:Nat)(s:σ)(o:Oper)(a:Act)(K:Act→σ→Prop):Prop:=
 asked F P D o a∧R i (execOp a.eval o) s∧if m=true then YM F n P ops D (R i) o (M i) a∧∀v s',M i s v s'→K (a.put o.dst v) s' else ∃v,YR P ops D (R i) o v a∧K (a.put o.dst v) s
theorem opIn_of_Step{m:Bool}{s:σ}{i:Nat}{o:Oper}{a:Act}{w:World}{K0:Act→σ→Prop}{K:Act→World→Prop}{Q':Exit→Act→World→Prop}(hnd:noDefer ops=true)(hi:ops[i]?=some o)(hy:Step F n P ops D M R m i s o a K0)(hD:D s w)(hK:∀a' s' w',K0 a' s'→D s' w'→K a' w'):wpOpIn F n P ops Q' i K a w:=by
 unfold wpOpIn;simp only [hi];obtain⟨ha,hRi,hy⟩:=hy;have ha':=ha ⟨s,w,hD⟩;cases m
 ·simp only [Bool.false_eq_true,if_false] at hy
  obtain⟨v,hy,h0⟩:=hy
  rcases hy with⟨hw,h⟩|⟨hw,rfl⟩
  ·simp only [hw,if_true]
   have h3:=h ⟨s,w,hD⟩ hRi;refine⟨ha', ?_⟩;rw [Oper.semAt_eq _ _ _ (noDefer_at hnd hi)];generalize (execOp a.eval o).run P w=r at *
   match r,h3 with
   | .ok (.value u) w',h3=>obtain⟨e1,e2⟩:=h3;subst e1;subst e2;exact hK _ _ _ h0 hD
   | .ok .skip w',h3=>obtain⟨e1,e2⟩:=h3;subst e1;subst e2;exact hK _ _ _ h0 hD
  ·simp only [hw,Bool.false_eq_true,if_false];exact⟨ha',hK _ _ _ h0 hD⟩
 ·simp only [if_true] at hy
  obtain⟨⟨hw,h⟩,h0⟩:=hy;simp only [hw,if_true];have h3:=h s w hRi hD;refine⟨ha', ?_⟩;rw [Oper.semAt_eq _ _ _ (noDefer_at hnd hi)];generalize (execOp a.eval o).run P w=r at *
  cases r with
  | halt x w'=>exact h3.elim
  | ok x w' =>
   cases x <;> simp only [stepUpon] at h3 <;> simp only [Oper.uponIn]
   case value u=>obtain⟨s',e1,e2⟩:=h3;exact hK _ _ _ (h0 _ _ e1) e2
   case enter f args =>
    obtain⟨hd,hc⟩:=h3;exact⟨hd,hc.mono fun e w'' ⟨u,he,s',e1,e2⟩=>by subst he;exact hK _ _ _ (h0 _ _ e1) e2⟩
def wpM(F:Fence)(n:Nat)(P:Program)(md:Region.Mode)(ops:Array Oper)(D:σ→World→Prop)(M:Nat→σ→Value→σ→Prop)(R:Nat→Sem Next→σ→Prop)(hd mk:Nat→Bool)(L:Array Bool→Act→σ→Prop):Nat→Array Bool→Act→σ→Prop
 | 0,listed,a,s=>L listed a s
 | f+1,listed,a,s=>Region.ready md ops listed≠[]∧∀i∈Region.ready md ops listed,hd i=true∧∃o,ops[i]?=some o∧Step F n P ops D M R (mk i) i s o a (wpM F n P md ops D M R hd mk L f (listed.setIfInBounds i true))
theorem anyIn_of_M{hd mk:Nat→Bool}{g:Nat}{L:Array Bool→Act→σ→Prop}{Q':Exit→Act→World→Prop}(hnd:noDefer ops=true)(hL:∀listed a s,L listed a s→∀w,D s w→wpAnyIn F n P md ops Q' g listed a w) :
  ∀(f:Nat) (listed:Array Bool) (a:Act) (s:σ) (w:World),D s w→wpM F n P md ops D M R hd mk L f listed a s→wpAnyIn F n P md ops Q' (f+g) listed a w
 | 0,listed,a,s,w,hw,h=>by rw [Nat.zero_add];exact hL _ _ _ h w hw
 | f+1,listed,a,s,w,hw,h=>by
  rw [show f+1+g=(f+g)+1 by omega];refine⟨fun h0=>absurd h0 h.1,fun i hi=>?_⟩;obtain⟨_,o,ho,hy⟩:=h.2 i hi;exact opIn_of_Step hnd ho hy hw fun a' s' w' hK hw'=>anyIn_of_M hnd hL f _ _ _ w' hw' hK
theorem wpM_first{hd mk:Nat→Bool}{i:Nat}{oi:Oper}{L:Array Bool→Act→σ→Prop}(hi:ops[i]?=some oi)(hsel:∀(j:Nat) (o:Oper) cs b,ops[j]?=some o→o.op≠.select cs b)(hin:hd i=true)
  (hdone:∀listed a s,L listed a s→∀j∈Region.ready md ops listed,hd j=false)
  (hM:∀k s,mk k=true→E s→∃v s',M k s v s')
  (hE:∀k s v s',mk k=true→M k s v s'→E s→E s')
  (hU:∀j ins s,E s→R j ins s→∃q:Un D,R j ins q.s)
  (hst:∀k j ins s v s',mk k=true→M k s v s'→R j ins s→R j ins s')
  (hbk:mk i=true→∀j ins s v s',(ups md ops i ops.size).getD j false=false→M i s v s'→R j ins s'→R j ins s)
  (hch:mk i=true→∀j oj,ops[j]?=some oj→mk j=true→i<j→(∃e∈oj.after,Region.binds md e=true∧e.on=i)∨∀s u sj v s2,M j s u sj→M i sj v s2→∃s',M i s v s'∧M j s' u s2) :
  ∀(f:Nat) (listed:Array Bool) (a:Act) (s:σ),E s→Closed md ops listed→(∀t,t<ops.size→hd t=false→listed.getD t true=false→(ups md ops i ops.size).getD t false=true) →
   (mk i=true→∀j,j<i→mk j=true→listed.getD j true=true) →
   (∀j oj,ops[j]?=some oj→j≠i→listed.getD j true=false→(∀e∈oj.after,Region.binds md e=true→e.on≠i)→oi.apart ops oj=true) →
   i∈Region.ready md ops listed→Step F n P ops D M R (mk i) i s oi a (wpM F n P md ops D M R hd mk L f (listed.setIfInBounds i true))→wpM F n P md ops D M R hd mk L (f+1) listed a s:=by
 intro f
 have key:∀(listed:Array Bool),Closed md ops listed→(∀t,t<ops.size→hd t=false→listed.getD t true=false→(ups md ops i ops.size).getD t false=true)→i∈Region.ready md ops listed→∀j∈Region.ready md ops listed,hd j=true:=by
  intro listed hc ht hr j hj;cases hh:hd j with
  | true=>rfl
  | false =>
   have hju:=(mem_ready.1 hj).1;obtain⟨o,ho,_⟩:=(mem_ready.1 hj).2;have hne:j≠i:=fun e=>by rw [e,hin] at hh;cases hh
   exact absurd hj (not_ready hc (getD_both (mem_ready.1 hr).1) (ht j (Array.getElem?_eq_some_iff.1 ho).1 hh hju) hne)
 induction f with
 | zero =>
  intro listed a s hEs hc ht _ _ hr H;refine⟨fun h=>(by rw [h] at hr;cases hr),fun j hj=>?_⟩;refine⟨key listed hc ht hr j hj, ?_⟩
  by_cases hji:j=i
  ·subst hji;exact⟨oi,hi,H⟩
  ·exfalso
   have h1:hd j=false:=by
    have H2:=H.2.2;cases hm:mk i
    ·rw [hm] at H2
     simp only [Bool.false_eq_true,if_false] at H2;obtain⟨v,_,hL⟩:=H2;exact hdone _ _ _ hL j (ready_mono hj hji)
    ·rw [hm] at H2
     simp only [if_true] at H2;obtain⟨_,hL⟩:=H2;obtain⟨v,s',hR⟩:=hM i s hm hEs;exact hdone _ _ _ (hL v s' hR) j (ready_mono hj hji)
   rw [key listed hc ht hr j hj] at h1;cases h1
 | succ f ih =>
  intro listed a s hEs hc ht hbe hfree hr H;refine⟨fun h=>(by rw [h] at hr;cases hr),fun j hj=>?_⟩;refine⟨key listed hc ht hr j hj, ?_⟩
  by_cases hji:j=i
  ·subst hji;exact⟨oi,hi,H⟩
  ·obtain⟨hjun,oj,hoj,hall⟩:=mem_ready.1 hj
   have hup:(ups md ops i ops.size).getD j false=false:=by
    cases hx:(ups md ops i ops.size).getD j false with
    | false=>rfl
    | true=>exact absurd hj (not_ready hc (getD_both (mem_ready.1 hr).1) hx hji)
   have hnot:∀e∈oj.after,Region.binds md e=true→e.on≠i:=fun e he hb heq=>by
    have h1:=hall e he hb;rw [heq,getD_both (mem_ready.1 hr).1] at h1;cases h1
   have hap:=hfree j oj hoj hji hjun hnot;obtain⟨p1,p2,p3⟩:=Oper.apart_spec hap
   have onem:mk i=true→mk j=true→∀s u sj v s2,M j s u sj→M i sj v s2→∃s',M i s v s'∧M j s' u s2:=fun hmi hmj=>by
    rcases Nat.lt_or_ge i j with hl|hl
    ·rcases hch hmi j oj hoj hmj hl with⟨e,he,hb,hon⟩|h
     ·exact absurd hon (hnot e he hb)
     ·exact h
    ·have:=hbe hmi j (by omega) hmj
     rw [hjun] at this;cases this
   have un:∀k,(listed.setIfInBounds j true).getD k true=false→listed.getD k true=false:=fun k hk=>by
    by_cases hjk:j=k
    ·subst hjk;exact hjun
    ·rw [getD_set_ne true hjk] at hk;exact hk
   have go:∀(u:Value) (s':σ),E s'→Step F n P ops D M R (mk i) i s' oi (a.put oj.dst u) (wpM F n P md ops D M R hd mk L f ((listed.setIfInBounds j true).setIfInBounds i true))→wpM F n P md ops D M R hd mk L (f+1) (listed.setIfInBounds j true) (a.put oj.dst u) s':=fun u s' hEs' hS =>
    ih (listed.setIfInBounds j true) (a.put oj.dst u) s' hEs' (hc.set hj) (fun t ht1 ht2 ht3=>ht t ht1 ht2 (un t ht3)) (fun hmi k hk hmk=>by
     cases hx:(listed.setIfInBounds j true).getD k true with
     | true=>rfl
     | false =>
      have h1:=hbe hmi k hk hmk
      rw [un k hx] at h1;cases h1) (fun k ok hk hki hun hno=>hfree k ok hk hki (un k hun) hno) (ready_mono hr (Ne.symm hji)) hS
   have ej:∀v,execOp a.eval oj=execOp (a.put oi.dst v).eval oj:=fun v=>(execOp_put oj (fun cs b=>hsel j oj cs b hoj) a oi.dst v p1).symm
   have wj:∀v,Region.wanted oj (yielded ops a.tmps)=Region.wanted oj (yielded ops (a.put oi.dst v).tmps):=fun v=>(wanted_put oj a oi.dst v p1).symm
   have bj:∀v w,oj.about P w a.eval=oj.about P w (a.put oi.dst v).eval:=fun v w=>(about_put oj w a oi.dst v p1).symm
   have ei:∀u,execOp (a.put oj.dst u).eval oi=execOp a.eval oi:=fun u=>execOp_put oi (fun cs b=>hsel i oi cs b hi) a oj.dst u p3
   have wi:∀u,Region.wanted oi (yielded ops (a.put oj.dst u).tmps)=Region.wanted oi (yielded ops a.tmps):=fun u=>wanted_put oi a oj.dst u p3
   have bi:∀u w,oi.about P w (a.put oj.dst u).eval=oi.about P w a.eval:=fun u w=>about_put oi w a oj.dst u p3
   have cm:Array.setIfInBounds (Array.setIfInBounds listed i true) j true=Array.setIfInBounds (Array.setIfInBounds listed j true) i true:=Array.setIfInBounds_comm _ _ (Ne.symm hji);refine⟨oj,hoj, ?_⟩;obtain⟨hai,hRi,H2⟩:=H;cases hm:mk i with
   | false =>
    rw [hm] at H2;simp only [Bool.false_eq_true,if_false] at H2;obtain⟨v,hyi,hW⟩:=H2;obtain⟨_,oj',hoj',haj,hRj,hS⟩:=hW.2 j (ready_mono hj hji);obtain rfl:oj=oj':=Option.some.inj (hoj.symm.trans hoj');rw [←ej v] at hRj;refine⟨haj.move (bj v),hRj, ?_⟩;cases hmj:mk j with
    | false =>
     rw [hmj] at hS;simp only [Bool.false_eq_true,if_false] at hS ⊢;obtain⟨u,hyj,hK⟩:=hS;refine⟨u,hyj.move (ej v) (wj v),go u s hEs ⟨hai.move (bi u),(ei u).symm ▸ hRi, ?_⟩⟩;rw [hm];simp only [Bool.false_eq_true,if_false];refine⟨v,hyi.move (ei u) (wi u), ?_⟩;rw [←cm,←Act.put_comm a v u p2];exact hK
    | true =>
     rw [hmj] at hS;simp only [if_true] at hS ⊢;obtain⟨hyj,hK⟩:=hS;refine⟨hyj.move (ej v) (wj v),fun u s' hR=>go u s' (hE j s u s' hmj hR hEs) ⟨hai.move (bi u),(ei u).symm ▸ hst j i _ s u s' hmj hR hRi, ?_⟩⟩;rw [hm];simp only [Bool.false_eq_true,if_false];refine⟨v,hyi.move (ei u) (wi u), ?_⟩;rw [←cm,←Act.put_comm a v u p2];exact hK u s' hR
   | true =>
    rw [hm] at H2;simp only [if_true] at H2;obtain⟨hyi,hW⟩:=H2;obtain⟨v0,s0,hR0⟩:=hM i s hm hEs;obtain⟨_,oj',hoj',haj,hRj0,hS⟩:=(hW v0 s0 hR0).2 j (ready_mono hj hji);obtain rfl:oj=oj':=Option.some.inj (hoj.symm.trans hoj');rw [←ej v0] at hRj0;have hRj:=hbk hm j _ s v0 s0 hup hR0 hRj0;refine⟨haj.move (bj v0),hRj, ?_⟩;cases hmj:mk j with
    | false =>
     rw [hmj] at hS;simp only [Bool.false_eq_true,if_false] at hS;obtain⟨u,hyj,_⟩:=hS;have hyj0:=hyj.move (ej v0) (wj v0);simp only [Bool.false_eq_true,if_false];refine⟨u,hyj0,go u s hEs ⟨hai.move (bi u),(ei u).symm ▸ hRi, ?_⟩⟩;rw [hm];simp only [if_true];refine⟨hyi.move (ei u) (wi u),fun v s' hR=>?_⟩;obtain⟨_,oj',hoj',_,_,hS⟩:=(hW v s' hR).2 j (ready_mono hj hji);obtain rfl:oj=oj':=Option.some.inj (hoj.symm.trans hoj');rw [hmj] at hS;simp only [Bool.false_eq_true,if_false] at hS;obtain⟨u',hyj',hK⟩:=hS;obtain rfl:u=u':=hyj0.uniq (hU j _ s hEs hRj) (hyj'.move (ej v) (wj v));rw [←cm,←Act.put_comm a v u p2];exact hK
    | true =>
     rw [hmj] at hS;simp only [if_true] at hS ⊢;refine⟨hS.1.move (ej v0) (wj v0),fun u sj hRj'=>go u sj (hE j s u sj hmj hRj' hEs) ⟨hai.move (bi u),(ei u).symm ▸ hst j i _ s u sj hmj hRj' hRi, ?_⟩⟩;rw [hm];simp only [if_true];refine⟨hyi.move (ei u) (wi u),fun v s2 hRi2=>?_⟩;obtain⟨s',h1,h2⟩:=onem hm hmj s u sj v s2 hRj' hRi2;obtain⟨_,oj',hoj',_,_,hS'⟩:=(hW v s' h1).2 j (ready_mono hj hji);obtain rfl:oj=oj':=Option.some.inj (hoj.symm.trans hoj');rw [hmj] at hS';simp only [if_true] at hS';rw [←cm,←Act.put_comm a v u p2];exact hS'.2 u s2 h2
def wpT(F:Fence)(n:Nat)(P:Program)(ops:Array Oper)(D:σ→World→Prop)(M:Nat→σ→Value→σ→Prop)(R:Nat→Sem Next→σ→Prop)(Q:Act→σ→Prop):Nat→List Bool→List Oper→Act→σ→Prop
 | _,_,[],a,s=>Q a s
 | k,m::ms,o::r,a,s=>Step F n P ops D M R m k s o a (wpT F n P ops D M R Q (k+1) ms r)
 | _,[],_::_,_,_=>False
open move (movB setN movB_done)
theorem Step.mono{m:Bool}{i:Nat}{s:σ}{o:Oper}{a:Act}{K K':Act→σ→Prop}(hEs:E s)(hE:m=true→∀v s',M i s v s'→E s')(h:∀a s,E s→K a s→K' a s)(hs:Step F n P ops D M R m i s o a K):Step F n P ops D M R m i s o a K':=by
 refine⟨hs.1,hs.2.1, ?_⟩;have hs:=hs.2.2;cases m
 ·simp only [Bool.false_eq_true,if_false] at hs ⊢
  obtain⟨v,h1,h2⟩:=hs;exact⟨v,h1,h _ _ hEs h2⟩
 ·simp only [if_true] at hs ⊢
  obtain⟨h1,h2⟩:=hs;exact⟨h1,fun v s' hR=>h _ _ (hE rfl v s' hR) (h2 v s' hR)⟩
theorem wpM_lex{hd mk:Nat→Bool}{Lq:Act→σ→Prop}{FF:Array Bool}(hs:Region.noSelect ops=true)(hF:∀j∈Region.ready md ops FF,hd j=false)(hM:∀k s,mk k=true→E s→∃v s',M k s v s')(hE:∀k s v s',mk k=true→M k s v s'→E s→E s')(hU:∀j ins s,E s→R j ins s→∃q:Un D,R j ins q.s)(hst:∀k j ins s v s',mk k=true→M k s v s'→R j ins s→R j ins s')(hbk:∀i,mk i=true→∀j ins s v s',(ups md ops i ops.size).getD j false=false→M i s v s'→R j ins s'→R j ins s)(hch:∀i,mk i=true→∀j oj,ops[j]?=some oj→mk j=true→i<j→(∃e∈oj.after,Region.binds md e=true∧e.on=i)∨∀s u sj v s2,M j s u sj→M i sj v s2→∃s',M i s v s'∧M j s' u s2) :
  ∀(l:List Oper) (m:List Bool) (k:Nat) (listed:Array Bool) (a:Act) (s:σ),E s→(∀j,j<l.length→l[j]?=ops[k+j]?)→(∀j,j<l.length→m[j]?=some (mk (k+j)))→(∀j,j<k→listed.getD j true=true)→Closed md ops listed→movB md ops hd l.length k listed=true→setN l.length k listed=FF→wpT F n P ops D M R Lq k m l a s →
  wpM F n P md ops D M R hd mk (fun listed' a' s'=>listed'=FF∧Lq a' s') l.length listed a s
 | [],m,_,_,_,_,_,_,_,_,_,_,hset,h=>⟨hset,by cases m <;> exact h⟩
 | o :: l,m,k,listed,a,s,hEs,hl,hm,hbe,hc,hB,hset,h=>by
  have h0:ops[k]?=some o:=by simpa using (hl 0 (by simp)).symm
  simp only [List.length_cons,movB,Bool.and_eq_true] at hB;obtain⟨⟨⟨⟨hr,hf⟩,hk⟩,ht⟩,hB'⟩:=hB;have hr':k∈Region.ready md ops listed:=by simpa using hr
  have hm0:=hm 0 (by simp)
  have hbe':∀j,j<k+1→(listed.setIfInBounds k true).getD j true=true:=fun j hj=>by
   by_cases hjk:k=j
   ·subst hjk
    rcases Nat.lt_or_ge k listed.size with h'|h'
    ·simp [h']
    ·simp [h']
   ·rw [getD_set_ne true hjk];exact hbe j (by omega)
  have hl':∀j,j<l.length→l[j]?=ops[k+1+j]?:=fun j hj=>by have:=hl (j+1) (by simpa using hj);simpa [Nat.add_assoc,Nat.add_comm 1 j] using this
  have ht':∀t,t<ops.size→hd t=false→listed.getD t true=false→(ups md ops k ops.size).getD t false=true:=fun t ht1 ht2 ht3=>by
   have h3:=List.all_eq_true.1 ht t (List.mem_range.2 ht1);rw [ht2,ht3] at h3
   simpa using h3
  match m,hm0,hm,h with
  | [],hm0,_,_=>simp at hm0
  | b::m,hm0,hm,h =>
   have hb:b=mk k:=by simpa using hm0
   have hm':∀j,j<l.length→m[j]?=some (mk (k+1+j)):=fun j hj=>by have:=hm (j+1) (by simpa using hj);simpa [Nat.add_assoc,Nat.add_comm 1 j] using this
   refine wpM_first h0 (Region.noSelect_spec hs) hk (fun _ _ _ hL=>by rw [hL.1];exact hF) hM hE hU hst (hbk k) (hch k) l.length listed a s hEs hc ht' (fun _ j hj _=>hbe j hj) (Region.free_spec h0 hf) hr' ?_;rw [←hb];exact Step.mono hEs (fun hbt v s' hR=>hE k s v s' (hb ▸ hbt) hR hEs) (fun a' s' hEs' hK=>wpM_lex hs hF hM hE hU hst hbk hch l m (k+1) _ a' s' hEs' hl' hm' hbe' (hc.set hr') hB' (by simpa [setN] using hset) hK) h
def pairsB(md:Region.Mode)(ops:Array Oper)(m:List Bool)(fr:List (Nat×Nat)):Bool:=
 (List.range ops.size).all fun i => !(m.getD i false) || (List.range ops.size).all fun j => !(m.getD j false) || !(decide (i < j)) || fr.contains (i,j) || match ops[j]? with
  | some oj=>oj.after.any fun e=>Region.binds md e&&e.on==i
  | none=>true
theorem nil_step{Q:Act→σ→Prop}{k:Nat}{m:List Bool}{a:Act}{s:σ}(h:Q a s):wpT F n P ops D M R Q k m [] a s:=by cases m <;> exact h
theorem pure_step{Q:Act→σ→Prop}{k:Nat}{m:List Bool}{o:Oper}{r:List Oper}{a:Act}{s:σ}(hR:R k (execOp a.eval o) s)(ha:asked F P D o a)
  (h:∀K:Act→Prop,(∀a,wpT F n P ops D M R Q (k+1) m r a s→K a)→if Region.wanted o (yielded ops a.tmps) then (∃v,(∀q:Un D,stage.pureUpon q.W v ((execOp a.eval o).run P q.W))∧K (a.put o.dst v)) else K (a.put o.dst undef)):wpT F n P ops D M R Q k (false::m) (o::r) a s:=by
 have h':=h _ fun _ h=>h
 refine⟨ha,hR, ?_⟩;simp only [Bool.false_eq_true,if_false]
 by_cases hw:Region.wanted o (yielded ops a.tmps)=true
 ·simp only [hw,if_true] at h'
  obtain⟨v,h1,h2⟩:=h';exact⟨v,.inl ⟨hw,fun q _=>h1 q⟩,h2⟩
 ·simp only [hw,Bool.false_eq_true,if_false] at h'
  exact⟨undef,.inr ⟨by simpa using hw,rfl⟩,h'⟩
theorem move_step{Q:Act→σ→Prop}{k:Nat}{m:List Bool}{o:Oper}{r:List Oper}{a:Act}{s:σ}(hR:R k (execOp a.eval o) s)(ha:asked F P D o a)(hw:Region.wanted o (yielded ops a.tmps)=true)(h1:∀s w,R k (execOp a.eval o) s→D s w→stepUpon F n P (fun u w'=>∃s',M k s u s'∧D s' w') ((execOp a.eval o).run P w))
  (h:∀v s',M k s v s'→∀K:Act→Prop,(∀a,wpT F n P ops D M R Q (k+1) m r a s'→K a)→K (a.put o.dst v)):wpT F n P ops D M R Q k (true::m) (o::r) a s:=
 ⟨ha,hR,by simp only [if_true];exact⟨⟨hw,h1⟩,fun v s' hR=>h v s' hR _ fun _ h=>h⟩⟩
end late
namespace rowreg
open Go Go.RowKit tail inround move
structure LD(w:World)(p:Nat)(u:Value)(s:List Nat)(W:World):Prop where
 bel:Below w.heap.size w W
 row:∀B,B∈s→w.heap.size≤B∧W.cell? ⟨B,p,none⟩=some u
theorem LD.read{w:World}{p:Nat}{u:Value}{s:List Nat}{W W':World}(h:LD w p u s W)(hb:Below W.heap.size W W'):LD w p u s W':=
 ⟨under.below_step h.bel hb,fun B hB=>⟨(h.row B hB).1,call.keepc hb (h.row B hB).2⟩⟩
theorem LD.start(w:World)(p:Nat)(u:Value){W:World}(hb:Below w.heap.size w W):LD w p u [] W:=⟨hb,fun B hB=>by cases hB⟩
theorem LD.more{w:World}{p:Nat}{u:Value}{s:List Nat}{W W':World}{B:Nat}(h:LD w p u s W)(hb:Below W.heap.size W W')(hB:W.heap.size≤B)(hc:W'.cell? ⟨B,p,none⟩=some u):LD w p u (B::s) W':=by
 refine⟨under.below_step h.bel hb,fun B' hB'=>?_⟩
 rcases List.mem_cons.1 hB' with rfl|hB'
 ·exact⟨Nat.le_trans h.bel.size hB,hc⟩
 ·exact (h.read hb).row B' hB'
theorem LD.less{w:World}{p:Nat}{u:Value}{s:List Nat}{W:World}{B:Nat}(h:LD w p u (B::s) W):LD w p u s W:=⟨h.bel,fun B' hB'=>h.row B' (List.mem_cons_of_mem _ hB')⟩
def LM(w:World)(p:Nat)(u:Value)(ic len:Nat):Nat→List Nat→Value→List Nat→Prop:=fun k s v s' =>
 k=ic→∃B c,v=.slice (some ⟨B,0,none⟩) len c∧s'=B::s∧∃W,LD w p u s' W
def LR(P:Program)(w:World)(p:Nat)(u:Value)(il:Nat):Nat→Sem Next→List Nat→Prop:=fun j ins s=>j=il→∀W,LD w p u s W→stage.pureUpon W u (ins.run P W)
theorem LM.has{w:World}{p:Nat}{u:Value}{ic len:Nat}(k:Nat)(s:List Nat)(h:∃W,LD w p u s W):∃v s',LM w p u ic len k s v s':=by
 obtain⟨W,hW⟩:=h;refine⟨.slice (some ⟨W.heap.size,0,none⟩) len 0,W.heap.size::s,fun _=>⟨_,_,rfl,rfl,W.alloc (.cells (Array.replicate (p+1) u) default),hW.more ((Below.refl _ _).alloc (Nat.le_refl _) _) (Nat.le_refl _) ?_⟩⟩;rw [cell_of_row _ _ _ _ _ _ (World.alloc_heap_new W _)]
 simp
variable {P:Program}
def endB(l:List Oper)(k:Nat):Bool:=
 decide (k<l.length)&&decide (Region.ready .any l.toArray (setN k 0 (Array.replicate l.length false))=[k]) &&
 checkB .any l.toArray (List.replicate (k+1) false++List.replicate (l.length-k-1) true) ((setN k 0 (Array.replicate l.length false)).setIfInBounds k true) &&
 decide (Region.ready .any l.toArray (setAll (List.replicate (k+1) false++List.replicate (l.length-k-1) true) 0 ((setN k 0 (Array.replicate l.length false)).setIfInBounds k true))=[])
theorem rest{l:List Oper}(hnd:noDefer l.toArray=true)(k:Nat){g:Nat}{S:Array Bool}{a:Act}{w:World}{Q:Exit→Act→World→Prop}(hB:checkB .any l.toArray (List.replicate k false++List.replicate g true) S=true)(hl:l.length=k+g)(hend:Region.ready .any l.toArray (setAll (List.replicate k false++List.replicate g true) 0 S)=[])
  (h:wpQuietIn Fence.wide 3 P l.toArray (fun w'=>∃n:under.Under w,w'=n.W) (fun a'=>∀n:under.Under w,Q .normal a' n.W) (l.drop k) a):wpAnyIn Fence.wide 3 P .any l.toArray Q g S a w:=by
 have e1:cnt (List.replicate k false++List.replicate g true)+0=g:=by rw [one.cnt_false,one.cnt_true];rfl
 have e2:sel (List.replicate k false++List.replicate g true) l=l.drop k:=by
  rw [one.sel_false _ _ _ (by omega),sel_all,List.take_of_length_le (by simp;omega)]
 have H:=inround.wpAnyIn_head (F:=Fence.wide) (n:=3) (P:=P) (md:=.any) (C:=fun w'=>∃n:under.Under w,w'=n.W) (Q':=Q) (g:=0) hnd (List.replicate k false++List.replicate g true) (l:=l) (listed:=S) (a:=a) (w:=w) hB ⟨⟨w,Below.refl _ _⟩,rfl⟩ (by
  rw [e2];refine inround.quiet_monoIn (fun a' ha w' hw'=>?_) _ _ h;obtain⟨n,rfl⟩:=hw'
  exact⟨hend,ha n⟩)
 rw [e1] at H;exact H
theorem wp_region_rows{id:Nat}{Q:Exit→Act→World→Prop}{a:Act}{w:World}{l:List Oper}(p:Nat)(u:Value)(len ic il k:Nat)(m:List Bool)(o:Oper)(ho:l[k]?=some o)(hnd:noDefer l.toArray=true)(hm:P.follows .mixedOrders=true)
    (hB:(Region.noSelect l.toArray&&closedB .any l.toArray (Array.replicate l.length false)&&late.pairsB .any l.toArray m []&&m.length==k&&movB .any l.toArray (fun t=>decide (t<k)) k 0 (Array.replicate l.length false))=true)(hE:endB l k=true)
    (hmk:(List.range m.length).all (fun n=>!(m.getD n false)||n==ic)=true)(hup:(ups .any l.toArray ic l.length).getD il false=true)
    (h:late.wpT Fence.wide 3 P l.toArray (LD w p u) (LM w p u ic len) (LR P w p u il) (fun a' s=>∀w',LD w p u s w'→Region.wanted o (yielded l.toArray a'.tmps)=true∧moves.stepUpon Fence.wide 3 P (fun v w2=>wpQuietIn Fence.wide 3 P l.toArray (fun w3=>∃n:under.Under w2,w3=n.W) (fun a3=>∀n:under.Under w2,Q .normal a3 n.W) (l.drop (k+1)) (a'.put o.dst v)) ((execOp a'.eval o).run P w')) 0 m (l.take k) a []):(Code.region id l.toArray true).wp P Q a w:=by
  have hmk':∀n,m.getD n false=true→n=ic:=fun n hn=>by
    rcases Nat.lt_or_ge n m.length with h1|h1
    · have:=List.all_eq_true.1 hmk n (List.mem_range.2 h1)
      rw [hn] at this
      simpa using this
    · rw [List.getD_eq_getElem?_getD,List.getElem?_eq_none h1] at hn;cases hn
  have h0:LD w p u [] w.drew:=LD.start w p u (under.drew_below _);refine (wpIn_wide (n:=3)).1 ?_;refine wpIn_region_any hm ?_;unfold endB at hE;simp only [Bool.and_eq_true,decide_eq_true_eq,beq_iff_eq] at hB hE;obtain⟨⟨⟨⟨h1,h2⟩,h4⟩,h5⟩,h6⟩:=hB;obtain⟨⟨⟨g1,g2⟩,g3⟩,g4⟩:=hE;have hlen:(l.take k).length=k:=by simp;omega
  have X:=late.wpM_lex (F:=Fence.wide) (n:=3) (P:=P) (D:=LD w p u) (M:=LM w p u ic len) (R:=LR P w p u il) (E:=fun s=>∃W,LD w p u s W) (md:=.any) (hd:=fun t=>decide (t<k)) (mk:=fun t=>m.getD t false) (FF:=setN k 0 (Array.replicate l.length false)) h1 (movB_done k 0 _ h6) (fun n s _ hs=>LM.has n s hs)
    (fun n s v s' hn hM _=>by obtain⟨B,c,_,_,h⟩:=hM (hmk' n hn);exact h) (fun j ins s ⟨W,h⟩ hR=>⟨⟨s,W,h⟩,hR⟩)
    (fun n j ins s v s' hn hM hR e W hW=>by obtain⟨B,c,_,rfl,_⟩:=hM (hmk' n hn);exact hR e W hW.less)
    (fun i hi j ins s v s' hj hM hR e=>by
      obtain rfl:=hmk' i hi;subst e;have hj':(ups .any l.toArray i l.length).getD j false=false:=by simpa using hj
      rw [hup] at hj';cases hj')
    (fun i hi j oj hoj hj hij=>?_) (l.take k) m 0 (Array.replicate l.length false) a [] ⟨_,h0⟩ (fun j hj=>by rw [List.getElem?_take,if_pos (by omega)];simp) (fun j hj=>by simp [List.getD_eq_getElem?_getD,List.getElem?_eq_getElem (show j<m.length by omega)]) (fun j hj=>by omega) (closed_of h2) (by rw [hlen];exact h6) (by rw [hlen]) h
  · have H:=late.anyIn_of_M (Q':=Q) (g:=l.length-k-1+1) hnd (fun listed' a' s hL w' hw'=>by
      rw [hL.1];obtain⟨k1,k2⟩:=hL.2 w' hw';refine⟨fun e=>(by rw [g2] at e;cases e),fun i hi=>?_⟩;rw [g2] at hi;obtain rfl:i=k:=by simpa using hi
      have ho':l.toArray[i]?=some o:=by simpa using ho
      unfold wpOpIn;simp only [ho'];rw [if_pos k1];refine⟨fun _ _=>trivial, ?_⟩;rw [Oper.semAt_eq _ _ _ (noDefer_at hnd ho')];have go:=fun v w2 hq=>rest (P:=P) (Q:=Q) hnd (i+1) (g:=l.length-i-1) (S:=(setN i 0 (Array.replicate l.length false)).setIfInBounds i true) (a:=a'.put o.dst v) (w:=w2) g3 (by omega) g4 hq
      generalize (execOp a'.eval o).run P w'=r at *
      cases r with
      | halt x w2=>exact k2.elim
      | ok x w2 =>
        cases x <;> simp only [moves.stepUpon] at k2 <;> simp only [Oper.uponIn]
        all_goals first
          | exact go _ w2 k2
          | (obtain ⟨hd, hc⟩ := k2
             exact⟨hd,hc.mono fun e w'' ⟨v,he,hq⟩=>by subst he;exact go v w'' hq⟩)) _ _ _ _ w.drew h0 X
    rw [hlen,show k+(l.length-k-1+1)=l.length by omega] at H
    simpa using H
  · have hjl:j<l.toArray.size:=(Array.getElem?_eq_some_iff.1 hoj).1
    have hil:i<l.toArray.size:=by omega
    have q1:=List.all_eq_true.1 h4 i (List.mem_range.2 hil);have hi':m.getD i false=true:=hi;have hj':m.getD j false=true:=hj;rw [hi'] at q1;simp only [Bool.not_true,Bool.false_or] at q1;have q2:=List.all_eq_true.1 q1 j (List.mem_range.2 hjl);rw [hj',decide_eq_true hij,hoj] at q2;simp only [Bool.not_true,Bool.false_or,List.contains_nil] at q2;obtain⟨e,he,hb⟩:=Array.any_eq_true'.1 q2;simp only [Bool.and_eq_true,beq_iff_eq] at hb;exact .inl ⟨e,he,hb.1,hb.2⟩
theorem known_step{ops:Array Oper}{σ:Type}{D:σ→World→Prop}{M:Nat→σ→Value→σ→Prop}{R:Nat→Sem Next→σ→Prop}{F:Fence}{n:Nat}{Q:Act→σ→Prop}{k:Nat}{m:List Bool}{o:Oper}{r:List Oper}{a:Act}{s:σ}(v:Value)(ha:moves.asked F P D o a)(hw:Region.wanted o (yielded ops a.tmps)=true)(hR:R k (execOp a.eval o) s)(hv:∀s w,R k (execOp a.eval o) s→D s w→stage.pureUpon w v ((execOp a.eval o).run P w))
  (h:∀K:Act→Prop,(∀a,late.wpT F n P ops D M R Q (k+1) m r a s→K a)→K (a.put o.dst v)):late.wpT F n P ops D M R Q k (false::m) (o::r) a s:=
 ⟨ha,hR,by simp only [Bool.false_eq_true,if_false];exact⟨v,.inl ⟨hw,fun q hq=>hv _ _ hq q.h⟩,h _ fun _ h=>h⟩⟩
end rowreg
end Go.Proofs.YtdplhgpeggcmdaaGreatDoor
