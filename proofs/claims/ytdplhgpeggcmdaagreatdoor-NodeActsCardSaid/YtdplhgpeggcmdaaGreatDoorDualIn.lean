/- DualIn: facts and laws for the walks. -/
import Derived.Test.YtdplhgpeggcmdaaGreatDoorEvac
namespace Go.Proofs.YtdplhgpeggcmdaaGreatDoor
set_option linter.unusedSimpArgs false
set_option linter.unusedVariables false
namespace evac
open group probe swar table
theorem tk_rep{H:Nat→Nat}{la:Nat}{t:Tb}{M:Nat→Option Nat}(h:RepN H la t M){a:Nat}(ha:a<t.n):∀k,k≤8→∃M',RepN H la (tk t a k) M'∧(∀key,(∃j,j<k∧Stands t key a j)→M' key=none)∧∀key,(¬∃j,j<k∧Stands t key a j)→M' key=M key
 | 0,_=>⟨M,h,fun key ⟨j,hj,_⟩=>absurd hj (Nat.not_lt_zero j),fun key _=>rfl⟩
 | k+1,hk=>by
  obtain⟨M',h',h1,h2⟩:=tk_rep h ha k (by omega);rw [tk_succ];have hf:=tk_far t a k k (Nat.le_refl _)
  split
  ·next h3 =>
   have hs:Stands (tk t a k) ((tk t a k).gs a k).key a k:=⟨by rw [tk_n];exact ha,by omega,h3,rfl⟩;have hs':Stands t ((tk t a k).gs a k).key a k:=⟨ha,by omega,by rw [←hf];exact h3,by rw [hf]⟩;have hr:=h'.rep.era hs
   have hM:(M' ((tk t a k).gs a k).key).isSome=true:=by
    have:=(h'.rep.2 ((tk t a k).gs a k).key _).2 ⟨a,k,hs,rfl⟩;rw [this];rfl
   have hla:((tk t a k).gs a k).key<la:=by
    rcases Nat.lt_or_ge ((tk t a k).gs a k).key la with h|h
    ·exact h
    ·have:=h'.far _ h;rw [this] at hM;cases hM
   refine⟨_,⟨hr,fun x hx=>by rw [set_ne _ _ (by omega)];exact h'.far x hx, ?_⟩,fun key ⟨j,hj,hst⟩=>?_,fun key hno=>?_⟩
   ·show (tk t a k).len-1=_
    rw [h'.len,cntM_del (M:=M') hla,hM];simp
   ·by_cases e:key = ((tk t a k).gs a k).key
    ·rw [e,set_same]
    ·rw [set_ne _ _ e]
     refine h1 key ⟨j, ?_,hst⟩
     rcases Nat.lt_or_ge j k with h|h
     ·exact h
     ·exfalso
      obtain rfl:j=k:=by omega
      exact e (by rw [hf];exact hst.2.2.2.symm)
   ·have e:key≠((tk t a k).gs a k).key:=fun e=>hno ⟨k,by omega,by rw [e];exact hs'⟩
    rw [set_ne _ _ e];exact h2 key fun⟨j,hj,hst⟩=>hno ⟨j,by omega,hst⟩
  ·next h3 =>
   have hno:∀key,¬Stands t key a k:=fun key hs=>h3 (by rw [hf];exact hs.2.2.1)
   refine⟨M',h',fun key ⟨j,hj,hst⟩=>h1 key ⟨j, ?_,hst⟩,fun key hh=>h2 key fun⟨j,hj,hst⟩=>hh ⟨j,by omega,hst⟩⟩
   rcases Nat.lt_or_ge j k with h|h
   ·exact h
   ·obtain rfl:j=k:=by omega
    exact absurd hst (hno key)
theorem mem_fulls{g:Gp}{k:Nat}(h:k∈fulls g):k<8∧(g k).kind=3:=by
 unfold fulls at h;have:=List.mem_filter.1 h;exact⟨List.mem_range.1 this.1,of_decide_eq_true this.2⟩
theorem fulls_mem{g:Gp}{k:Nat}(hk:k<8)(h:(g k).kind=3):k∈fulls g:=by
 unfold fulls;exact List.mem_filter.2 ⟨List.mem_range.2 hk,decide_eq_true h⟩
theorem mem_lst{u:Nat→Tb}{i:Nat}(hi:i<(u 0).n){e:Sl}(he:e∈lst u i):∃k,Stands (u 0) e.key i k∧(u 0).gs i k=e:=by
 unfold lst entsG at he;obtain⟨k,hk,rfl⟩:=List.mem_map.1 he;have hk':k<8∧((u 0).gs i k).kind=3:=mem_fulls hk;exact⟨k,⟨hi,hk'.1,hk'.2,rfl⟩,rfl⟩
theorem lst_mem{u:Nat→Tb}{i k key:Nat}(h:Stands (u 0) key i k):(u 0).gs i k∈lst u i:=by
 unfold lst entsG;exact List.mem_map.2 ⟨k,fulls_mem h.2.1 h.2.2.1,rfl⟩
theorem repN_put{H:Nat→Nat}{la:Nat}{t:Tb}{M:Nat→Option Nat}(h:RepN H la t M){key v:Nat}(hk:key<la)(hkey:key<18446744073709551616)(hh:H key<18446744073709551616)(hv:v<18446744073709551616)(hc:(M key).isSome=true∨1≤t.left) :
  RepN H la (t.puts key (H key) v) (set M key (some v))∧putE' t key (H key)=0∧putB' t key (H key)=!(M key).isSome:=by
 obtain⟨a,c,d,b,_⟩:=(h.rep.puts hkey hh hv).1 hc;refine⟨⟨a,fun k hk'=>by rw [set_ne _ _ (by omega)];exact h.far k hk', ?_⟩,c,d⟩;rw [b,h.len,cntM_some hk];split <;> omega
section
variable {H:Nat→Nat} {la N d:Nat} {U:Nat→Bool} {t:Nat→Tb} {M:Nat→Nat→Option Nat}
theorem lst_nodup{i:Nat}(hI:Inv H (t 0))(hi:i<(t 0).n):((lst t i).map Sl.key).Nodup:=by
 unfold lst entsG;rw [List.map_map];have hf:(fulls ((t 0).gs i)).Nodup:=by unfold fulls;exact List.Pairwise.filter _ (show l8.Nodup by decide)
 refine List.pairwise_map.2 (List.Pairwise.imp_of_mem (fun {x y} hx hy hne hxy=>hne ?_) hf);have hx':=mem_fulls hx;have hy':=mem_fulls hy;have s1:Stands (t 0) ((t 0).gs i x).key i x:=⟨hi,hx'.1,hx'.2,rfl⟩;have s2:Stands (t 0) ((t 0).gs i x).key i y:=⟨hi,hy'.1,hy'.2,hxy.symm⟩;have a:=(found hI s1).2;have b:=(found hI s2).2;omega
def Off(t:Tb)(c:Nat):Prop:=∀g,g<c→∀k,k<8→(t.gs g k).kind≠3
end
inductive Reach(hz:Nat→Nat)(la N d:Nat)(t0:Nat→Tb):Bool→Nat→(Nat→Tb)→Prop
 | new:Reach hz la N d t0 false 0 t0
 | old {n:Nat} {t:Nat→Tb} {key:Nat}:Reach hz la N d t0 false n t→key<la→Reach hz la N d t0 false (n+1) (up t 0 ((t 0).puts key (hz key) (key+5)))
 | turn {n:Nat} {t:Nat→Tb}:Reach hz la N d t0 false n t→Reach hz la N d t0 true n t
 | more {n:Nat} {t:Nat→Tb} {key:Nat}:Reach hz la N d t0 true n t→key<la→isThere (t 0) key (hz key)=false→Reach hz la N d t0 true (n+1) (up t (tgt N d (hz key)) ((t (tgt N d (hz key))).puts key (hz key) (key+5)))
 | skip {n:Nat} {t:Nat→Tb}:Reach hz la N d t0 true n t→Reach hz la N d t0 true (n+1) t
theorem cntM_set{la key v:Nat}{M:Nat→Option Nat}(hk:key<la):cntM la (set M key (some v))≤cntM la M+1:=by
 rw [cntM_some hk];split <;> omega
end evac
namespace evac
open Go.ChangeShapes Go.WideShapes Go.ChangeAt Go.RowKit Go.Shelf swar under trap meter group probe lens tail call table
theorem tk_len(t:Tb)(a:Nat):∀k,(tk t a k).len=t.len-(((List.range k).filter (is 3 (t.gs a))).length:Nat)
 | 0=>by simp [tk]
 | k+1=>by
  have hf:=tk_far t a k k (Nat.le_refl _);have ih:=tk_len t a k;rw [tk_succ,List.range_succ,List.filter_append,List.length_append]
  by_cases h3:((tk t a k).gs a k).kind=3
  ·rw [if_pos h3]
   have h4:is 3 (t.gs a) k=true:=by unfold is;rw [←hf];exact decide_eq_true h3
   show (tk t a k).len-1=_;rw [ih];simp [h4];omega
  ·rw [if_neg h3]
   have h4:is 3 (t.gs a) k=false:=by unfold is;rw [←hf];exact decide_eq_false h3
   rw [ih];simp [h4]
theorem puts_cnt(t:Tb)(key hs v:Nat):(t.puts key hs v).len+(t.puts key hs v).tombs≤t.len+t.tombs+1:=by
 unfold Tb.puts;cases ht:isThere t key hs
 ·show (t.place key hs v).len+(t.place key hs v).tombs≤_
  by_cases he:roomE t key hs=0
  ·obtain⟨_,k,_,h3,_⟩:=room_is he
   rw [place_at he h3];show t.len+1+(if is 2 (t.gs (roomG t key hs)) k=true then t.tombs-1 else t.tombs)≤_
   split <;> omega
  ·rw [place_no he];omega
 ·show (t.replace key hs v).len+(t.replace key hs v).tombs≤_
  unfold Tb.replace
  split
  ·show t.len+t.tombs≤_;omega
  ·show t.len+t.tombs≤_;omega
structure Du(H:Nat→Nat)(la N d:Nat)(F:Nat→Option Nat)(t:Nat→Tb)(M:Nat→Nat→Option Nat)(c:Nat):Prop where
 rep:∀i,i<N→RepN H la (t i) (M i)
 tg:∀i,1≤i→i<N→∀key,(M i key).isSome=true→tgt N d (H key)=i
 one:∀key,(M 0 key).isSome=true→M (tgt N d (H key)) key=none
 un:∀key,F key=(M 0 key).or (M (tgt N d (H key)) key)
 cn:∀i,1≤i→i<N→(t 0).len+(t i).len+(t i).tombs≤(c:Int)
structure MidV(H:Nat→Nat)(la N d:Nat)(t0:Nat→Tb)(M:Nat→Nat→Option Nat)(D:Nat→Prop)(k:Nat)(t:Nat→Tb)(M':Nat→Nat→Option Nat):Prop where
 zero:t 0=t0 0
 rep:∀i,1≤i→i<N→RepN H la (t i) (M' i)
 old:∀i,1≤i→i<N→∀key,¬(D key∧tgt N d (H key)=i)→M' i key=M i key
 new:∀i,1≤i→i<N→∀key,D key→tgt N d (H key)=i→M' i key=M 0 key
 cn:∀i,1≤i→i<N→(t i).len+(t i).tombs≤(t0 i).len+(t0 i).tombs+(k:Int)
 n:∀i,(t i).n=(t0 i).n
section
variable {H:Nat→Nat} {la N d c:Nat} {F:Nat→Option Nat} {t:Nat→Tb} {M:Nat→Nat→Option Nat}
theorem lst_len(t:Nat→Tb)(i:Nat):(tk (t 0) i 8).len=(t 0).len-((lst t i).length:Nat):=by
 rw [tk_len];unfold lst entsG fulls;rw [List.length_map]
 rfl
def upM(M:Nat→Nat→Option Nat)(i:Nat)(m:Nat→Option Nat):Nat→Nat→Option Nat:=fun j=>if j=i then m else M j
theorem upM_same(M:Nat→Nat→Option Nat)(i:Nat)(m:Nat→Option Nat):upM M i m i=m:=if_pos rfl
theorem upM_ne(M:Nat→Nat→Option Nat){i j:Nat}(m:Nat→Option Nat)(h:j≠i):upM M i m j=M j:=if_neg h
theorem remove_cnt(t:Tb)(key hs:Nat):(t.remove key hs).len+(t.remove key hs).tombs≤t.len+t.tombs:=by
 unfold Tb.remove
 split
 ·unfold Tb.era
  show t.len-1+(if opens _=true then t.tombs else t.tombs+1)≤_
  split <;> omega
 ·omega
theorem Du.put0(hN:N=2∨N=3)(hla:la≤1000)(hH:∀key,key<la→H key<18446744073709551616)(s:Du H la N d F t M c){key v:Nat}(hk:key<la)(hv:v<18446744073709551616)(hc:(M 0 key).isSome=true∨M (tgt N d (H key)) key=none∧1≤(t 0).left) :
  Du H la N d (set F key (some v)) (up t 0 ((t 0).puts key (H key) v)) (upM M 0 (set (M 0) key (some v))) (c+1):=by
 have h0N:0<N:=by omega
 have hpos:∀key,tgt N d (H key)≠0:=fun key=>by have:=tgt_pos N d (H key);omega
 obtain⟨a,_,_⟩:=repN_put (s.rep 0 h0N) hk (by omega) (hH _ hk) hv (hc.imp id fun q=>q.2)
 have hlen:((t 0).puts key (H key) v).len≤(t 0).len+1:=by
  rw [a.len,(s.rep 0 h0N).len];have:=cntM_set (v:=v) (M:=M 0) hk;omega
 have hno:M (tgt N d (H key)) key=none:=hc.elim (s.one key) fun q=>q.1
 refine⟨fun j hj=>?_,fun j hj1 hj k hk'=>?_,fun k hk'=>?_,fun k=>?_,fun j hj1 hj=>?_⟩
 ·by_cases e:j=0
  ·subst e;rw [up_same,upM_same];exact a
  ·rw [up_ne _ _ e,upM_ne _ _ e];exact s.rep j hj
 ·rw [upM_ne _ _ (by omega)] at hk';exact s.tg j hj1 hj k hk'
 ·rw [upM_ne _ _ (hpos k)]
  rw [upM_same] at hk'
  by_cases e:k=key
  ·subst e;exact hno
  ·rw [set_ne _ _ e] at hk';exact s.one k hk'
 ·rw [upM_same,upM_ne _ _ (hpos k)]
  by_cases e:k=key
  ·subst e;rw [set_same,set_same];rfl
  ·rw [set_ne _ _ e,set_ne _ _ e];exact s.un k
 ·have:=s.cn j hj1 hj
  rw [up_same,up_ne _ _ (by omega)];omega
theorem Du.putT(hN:N=2∨N=3)(hla:la≤1000)(hH:∀key,key<la→H key<18446744073709551616)(s:Du H la N d F t M c){key v:Nat}(hk:key<la)(hv:v<18446744073709551616)(h0:M 0 key=none)(hc:(M (tgt N d (H key)) key).isSome=true∨1≤(t (tgt N d (H key))).left) :
  Du H la N d (set F key (some v)) (up t (tgt N d (H key)) ((t (tgt N d (H key))).puts key (H key) v)) (upM M (tgt N d (H key)) (set (M (tgt N d (H key))) key (some v))) (c+1):=by
 have h0N:0<N:=by omega
 have hpos:∀key,tgt N d (H key)≠0:=fun key=>by have:=tgt_pos N d (H key);omega
 have p1:=tgt_pos N d (H key);have p2:=tgt_lt hN d (H key);obtain⟨a,_,_⟩:=repN_put (s.rep _ p2) hk (by omega) (hH _ hk) hv hc;refine⟨fun j hj=>?_,fun j hj1 hj k hk'=>?_,fun k hk'=>?_,fun k=>?_,fun j hj1 hj=>?_⟩
 ·by_cases e:j=tgt N d (H key)
  ·subst e;rw [up_same,upM_same];exact a
  ·rw [up_ne _ _ e,upM_ne _ _ e];exact s.rep j hj
 ·by_cases e:j=tgt N d (H key)
  ·subst e
   rw [upM_same] at hk'
   by_cases q:k=key
   ·subst q;rfl
   ·rw [set_ne _ _ q] at hk';exact s.tg _ hj1 hj k hk'
  ·rw [upM_ne _ _ e] at hk';exact s.tg j hj1 hj k hk'
 ·rw [upM_ne _ _ (Ne.symm (hpos key))] at hk'
  have q:k≠key:=fun e=>by subst e;rw [h0] at hk';cases hk'
  by_cases e:tgt N d (H k)=tgt N d (H key)
  ·rw [e,upM_same,set_ne _ _ q,←e];exact s.one k hk'
  ·rw [upM_ne _ _ e];exact s.one k hk'
 ·rw [upM_ne _ _ (Ne.symm (hpos key))]
  by_cases q:k=key
  ·subst q;rw [set_same,upM_same,set_same,h0];rfl
  ·rw [set_ne _ _ q,s.un k]
   by_cases e:tgt N d (H k)=tgt N d (H key)
   ·rw [e,upM_same,set_ne _ _ q]
   ·rw [upM_ne _ _ e]
 ·have q:=s.cn j hj1 hj
  rw [up_ne _ _ (Ne.symm (hpos key))]
  by_cases e:j=tgt N d (H key)
  ·subst e;rw [up_same]
   have:=puts_cnt (t (tgt N d (H key))) key (H key) v;omega
  ·rw [up_ne _ _ e];omega
theorem Du.del0(hN:N=2∨N=3)(s:Du H la N d F t M c){key:Nat}(hk:key<la)(h0:(M 0 key).isSome=true) :
  Du H la N d (set F key none) (up t 0 ((t 0).remove key (H key))) (upM M 0 (set (M 0) key none)) c:=by
 have h0N:0<N:=by omega
 have hpos:∀key,tgt N d (H key)≠0:=fun key=>by have:=tgt_pos N d (H key);omega
 have a:=(s.rep 0 h0N).remove hk
 have hlen:((t 0).remove key (H key)).len≤(t 0).len:=by
  rw [a.len,(s.rep 0 h0N).len,cntM_del (M:=M 0) hk]
  split <;> omega
 refine⟨fun j hj=>?_,fun j hj1 hj k hk'=>?_,fun k hk'=>?_,fun k=>?_,fun j hj1 hj=>?_⟩
 ·by_cases e:j=0
  ·subst e;rw [up_same,upM_same];exact a
  ·rw [up_ne _ _ e,upM_ne _ _ e];exact s.rep j hj
 ·rw [upM_ne _ _ (by omega)] at hk';exact s.tg j hj1 hj k hk'
 ·rw [upM_ne _ _ (hpos k)]
  rw [upM_same] at hk'
  by_cases e:k=key
  ·subst e;rw [set_same] at hk';cases hk'
  ·rw [set_ne _ _ e] at hk';exact s.one k hk'
 ·rw [upM_same,upM_ne _ _ (hpos k)]
  by_cases e:k=key
  ·subst e;rw [set_same,set_same,s.one k h0];rfl
  ·rw [set_ne _ _ e,set_ne _ _ e];exact s.un k
 ·have:=s.cn j hj1 hj
  rw [up_same,up_ne _ _ (by omega)];omega
theorem Du.delT(hN:N=2∨N=3)(s:Du H la N d F t M c){key:Nat}(hk:key<la)(h0:M 0 key=none) :
  Du H la N d (set F key none) (up t (tgt N d (H key)) ((t (tgt N d (H key))).remove key (H key))) (upM M (tgt N d (H key)) (set (M (tgt N d (H key))) key none)) c:=by
 have hpos:∀key,tgt N d (H key)≠0:=fun key=>by have:=tgt_pos N d (H key);omega
 have p2:=tgt_lt hN d (H key);have a:=(s.rep _ p2).remove hk;refine⟨fun j hj=>?_,fun j hj1 hj k hk'=>?_,fun k hk'=>?_,fun k=>?_,fun j hj1 hj=>?_⟩
 ·by_cases e:j=tgt N d (H key)
  ·subst e;rw [up_same,upM_same];exact a
  ·rw [up_ne _ _ e,upM_ne _ _ e];exact s.rep j hj
 ·by_cases e:j=tgt N d (H key)
  ·subst e
   rw [upM_same] at hk'
   by_cases q:k=key
   ·subst q;rfl
   ·rw [set_ne _ _ q] at hk';exact s.tg _ hj1 hj k hk'
  ·rw [upM_ne _ _ e] at hk';exact s.tg j hj1 hj k hk'
 ·rw [upM_ne _ _ (Ne.symm (hpos key))] at hk'
  have q:k≠key:=fun e=>by subst e;rw [h0] at hk';cases hk'
  by_cases e:tgt N d (H k)=tgt N d (H key)
  ·rw [e,upM_same,set_ne _ _ q,←e];exact s.one k hk'
  ·rw [upM_ne _ _ e];exact s.one k hk'
 ·rw [upM_ne _ _ (Ne.symm (hpos key))]
  by_cases q:k=key
  ·subst q;rw [set_same,upM_same,set_same,h0];rfl
  ·rw [set_ne _ _ q,s.un k]
   by_cases e:tgt N d (H k)=tgt N d (H key)
   ·rw [e,upM_same,set_ne _ _ q]
   ·rw [upM_ne _ _ e]
 ·have q:=s.cn j hj1 hj
  rw [up_ne _ _ (Ne.symm (hpos key))]
  by_cases e:j=tgt N d (H key)
  ·subst e;rw [up_same]
   have:=remove_cnt (t (tgt N d (H key))) key (H key);omega
  ·rw [up_ne _ _ e];omega
theorem Du.start(hN:N=2∨N=3){M0:Nat→Option Nat}(h0:RepN H la (t 0) M0)(hn:∀i,1≤i→i<N→RepN H la (t i) (fun _=>none)∧(t i).tombs=0)(hc:(t 0).len≤(c:Int)) :
  Du H la N d M0 t (fun i=>if i=0 then M0 else fun _=>none) c:=by
 have hpos:∀key,tgt N d (H key)≠0:=fun key=>by have:=tgt_pos N d (H key);omega
 refine⟨fun j hj=>?_,fun j hj1 hj k hk'=>?_,fun k hk'=>?_,fun k=>?_,fun j hj1 hj=>?_⟩
 ·by_cases e:j=0
  ·subst e;exact h0
  ·rw [if_neg e];exact (hn j (by omega) hj).1
 ·rw [if_neg (by omega)] at hk';cases hk'
 ·rw [if_neg (hpos k)]
 ·rw [if_pos rfl,if_neg (hpos k)];cases M0 k <;> rfl
 ·obtain⟨a,b⟩:=hn j hj1 hj
  have:=a.len;rw [cntM_none] at this;omega
end
end evac
namespace dual
open group probe swar table evac
def js(rd:Bool)(N d h:Nat):List Nat:=if rd=true then [tgt N d h,0] else [0]
theorem js_le(rd:Bool)(N d h:Nat):1≤(js rd N d h).length∧(js rd N d h).length≤2:=by cases rd <;> simp [js]
def fnd(t:Nat→Tb)(key h:Nat):List Nat→Option Nat
 | []=>none
 | i::l=>if isThere (t i) key h=true then some i else fnd t key h l
def fndK(t:Nat→Tb)(key h:Nat):List Nat→Nat
 | []=>0
 | i::l=>looks (t i) key h+if isThere (t i) key h=true then 0 else fndK t key h l
def fndE(t:Nat→Tb)(key h:Nat)(l:List Nat):Sl:=match fnd t key h l with
 | some i=>entOf (t i) key h
 | none=>⟨1,0,0,0⟩
section
variable {t:Nat→Tb} {key h:Nat}
theorem fnd_pre:∀{pre:List Nat},(∀i∈pre,isThere (t i) key h=false)→∀l,fnd t key h (pre++l)=fnd t key h l∧fndK t key h (pre++l)=fndK t key h pre+fndK t key h l
 | [],_,l=>⟨rfl,by simp [fndK]⟩
 | i :: pre,hp,l=>by
  obtain⟨a,b⟩:=fnd_pre (pre:=pre) (fun j hj=>hp j (List.mem_cons_of_mem _ hj)) l;have hi:=hp i List.mem_cons_self;refine⟨?_, ?_⟩
  ·show (if isThere (t i) key h=true then some i else fnd t key h (pre++l))=_
   rw [if_neg (by rw [hi];decide)];exact a
  ·show looks (t i) key h+(if isThere (t i) key h=true then 0 else fndK t key h (pre++l))=looks (t i) key h+(if isThere (t i) key h=true then 0 else fndK t key h pre)+_
   rw [if_neg (by rw [hi];decide),if_neg (by rw [hi];decide),b];omega
theorem fndK_one(i:Nat):fndK t key h [i]=looks (t i) key h:=by unfold fndK;simp [fndK]
theorem fnd_at{l:List Nat}{j:Nat}(hj:j<l.length)(hp:∀i∈l.take j,isThere (t i) key h=false)(ht:isThere (t l[j]) key h=true):fnd t key h l=some l[j]∧fndK t key h l=fndK t key h (l.take j)+looks (t l[j]) key h:=by
 have e:l=l.take j++(l[j]::l.drop (j+1)):=by rw [←List.drop_eq_getElem_cons hj,List.take_append_drop]
 obtain⟨a,b⟩:=fnd_pre hp (l[j]::l.drop (j+1));rw [←e] at a b;refine⟨?_, ?_⟩
 ·rw [a];unfold fnd;rw [if_pos ht]
 ·rw [b];congr 1;conv=>lhs;unfold fndK
  rw [if_pos ht];rfl
theorem fnd_off{l:List Nat}(hp:∀i∈l,isThere (t i) key h=false):fnd t key h l=none:=by
 have:=(fnd_pre hp []).1;rw [List.append_nil] at this;rw [this];rfl
theorem fnd_some{l:List Nat}{i:Nat}(hf:fnd t key h l=some i):i∈l∧isThere (t i) key h=true:=by
 induction l with
 | nil=>cases hf
 | cons x l ih =>
  unfold fnd at hf
  split at hf
  ·next hx =>
   injection hf with hf;subst hf;exact⟨List.mem_cons_self,hx⟩
  ·obtain⟨a,b⟩:=ih hf
   exact⟨List.mem_cons_of_mem _ a,b⟩
theorem fndK_snoc{l:List Nat}{j:Nat}(hj:j<l.length)(hp:∀i∈l.take j,isThere (t i) key h=false):fndK t key h (l.take (j+1))=fndK t key h (l.take j)+looks (t l[j]) key h:=by
 rw [take_next l hj,(fnd_pre hp [l[j]]).2,fndK_one]
theorem off_snoc{l:List Nat}{j:Nat}(hj:j<l.length)(hp:∀i∈l.take j,isThere (t i) key h=false)(ht:isThere (t l[j]) key h=false):∀i∈l.take (j+1),isThere (t i) key h=false:=fun i hi=>by
 rw [take_next l hj] at hi
 rcases List.mem_append.1 hi with hi|hi
 ·exact hp i hi
 ·obtain rfl:i=l[j]:=by simpa using hi
  exact ht
end
def dI(t:Nat→Tb)(key h:Nat)(l:List Nat):Nat:=(fnd t key h l).getD (l.headD 0)
def dT(t:Nat→Tb)(key h v:Nat)(l:List Nat)(more:Bool):Nat→Tb:=if ((fnd t key h l).isSome||more)=true then up t (dI t key h l) ((t (dI t key h l)).puts key h v) else t
def dB(t:Nat→Tb)(key h:Nat)(l:List Nat)(more:Bool):Bool:=!(fnd t key h l).isSome&&more&&putB' (t (dI t key h l)) key h
def dE(t:Nat→Tb)(key h:Nat)(l:List Nat)(more:Bool):Nat:=if (fnd t key h l).isSome=true then 0 else if more=true then putE' (t (dI t key h l)) key h else 2
def eT(t:Nat→Tb)(key h:Nat)(l:List Nat):Nat→Tb:=match fnd t key h l with
 | some i=>up t i ((t i).remove key h)
 | none=>t
end dual
namespace evac
open group probe swar table dual
section
variable {H:Nat→Nat} {la N d c n1:Nat} {F:Nat→Option Nat} {t:Nat→Tb} {M:Nat→Nat→Option Nat} {rd:Bool}
theorem stands_new{n key i k:Nat}:¬Stands (Tb.new n) key i k:=fun h=>by
 obtain⟨_,_,h3,_⟩:=h;revert h3;show (Gp.new k).kind=3→False;intro h3;exact absurd (show (1:Nat)=3 from h3) (by decide)
theorem Du.bare(s:Du H la N d F t M c)(hN:N=2∨N=3)(ht:∀j,1≤j→t j=Tb.new n1)(key:Nat):M (tgt N d (H key)) key=none:=by
 have p1:=tgt_pos N d (H key);have p2:=tgt_lt hN d (H key);refine ((s.rep _ p2).rep.none_iff key).2 fun i k=>?_
 rw [ht _ p1];exact stands_new
theorem Du.th(s:Du H la N d F t M c){i:Nat}(hi:i<N)(key:Nat):isThere (t i) key (H key)=(M i key).isSome:=(s.rep i hi).rep.there key
theorem Du.seek0(s:Du H la N d F t M c)(hN:N=2∨N=3)(ht:rd=false→∀j,1≤j→t j=Tb.new n1)(key:Nat) :
  (∃i v,fnd t key (H key) (js rd N d (H key))=some i∧F key=some v∧M i key=some v∧(i=0∨i=tgt N d (H key)∧M 0 key=none∧rd=true))∨(fnd t key (H key) (js rd N d (H key))=none∧F key=none∧M 0 key=none∧M (tgt N d (H key)) key=none):=by
 have h0:=s.th (i:=0) (by omega) key;have h1:=s.th (tgt_lt hN d (H key)) key;have hu:=s.un key;have ho:=s.one key;cases e0:M 0 key with
 | some v =>
  have e1:=ho (by rw [e0];rfl);refine .inl ⟨0,v, ?_, ?_,e0,.inl rfl⟩
  ·rw [e0] at h0;rw [e1] at h1
   cases rd
   ·show (if _ then _ else _)=_
    rw [if_pos (by rw [h0];rfl)]
   ·show (if _ then _ else (if _ then _ else _))=_
    rw [if_neg (by rw [h1];decide),if_pos (by rw [h0];rfl)]
  ·rw [hu,e0];rfl
 | none =>
  rw [e0] at h0 hu;cases e1:M (tgt N d (H key)) key with
  | some v =>
   cases rd
   ·rw [s.bare hN (ht rfl) key] at e1;cases e1
   ·refine .inl ⟨tgt N d (H key),v, ?_, ?_,e1,.inr ⟨rfl,rfl,rfl⟩⟩
    ·rw [e1] at h1
     show (if _ then _ else _)=_;rw [if_pos (by rw [h1];rfl)]
    ·rw [hu,e1];rfl
  | none =>
   refine .inr ⟨?_, ?_,rfl,rfl⟩
   ·rw [e1] at h1
    cases rd
    ·show (if _ then _ else _)=_
     rw [if_neg (by rw [h0];decide)];rfl
    ·show (if _ then _ else (if _ then _ else _))=_
     rw [if_neg (by rw [h1];decide),if_neg (by rw [h0];decide)];rfl
   ·rw [hu,e1];rfl
theorem Du.ddel(s:Du H la N d F t M c)(hN:N=2∨N=3)(ht:rd=false→∀j,1≤j→t j=Tb.new n1){key:Nat}(hk:key<la) :
  (∃M',Du H la N d (set F key none) (eT t key (H key) (js rd N d (H key))) M' c)∧(rd=false→∀j,1≤j→eT t key (H key) (js rd N d (H key)) j=Tb.new n1):=by
 rcases s.seek0 hN ht key with⟨i,v0,h1,h2,h3,h4⟩|⟨h1,h2,h5,h6⟩
 ·have eE:eT t key (H key) (js rd N d (H key))=up t i ((t i).remove key (H key)):=by unfold eT;rw [h1]
  rw [eE]
  rcases h4 with rfl|⟨rfl,h5,hrd⟩
  ·exact⟨⟨_,s.del0 hN hk (by rw [h3];rfl)⟩,fun hx j hj=>by rw [up_ne _ _ (by omega)];exact ht hx j hj⟩
  ·exact⟨⟨_,s.delT hN hk h5⟩,fun hx=>by rw [hrd] at hx;cases hx⟩
 ·have eE:eT t key (H key) (js rd N d (H key))=t:=by unfold eT;rw [h1]
  rw [eE]
  have e:set F key none=F:=by
   funext k;by_cases hk:k=key
   ·subst hk;rw [set_same,h2]
   ·rw [set_ne _ _ hk]
  rw [e];exact⟨⟨M,s⟩,ht⟩
end
end evac
end Go.Proofs.YtdplhgpeggcmdaaGreatDoor
