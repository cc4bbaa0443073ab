/- TabMath: facts and laws for the walks. -/
import Derived.Test.YtdplhgpeggcmdaaGreatDoorGroup
namespace Go.Proofs.YtdplhgpeggcmdaaGreatDoor
set_option linter.unusedSimpArgs false
set_option linter.unusedVariables false
namespace table
open group probe swar
def sumN:Nat→(Nat→Nat)→Nat
 | 0,_=>0
 | n+1,f=>sumN n f+f n
theorem sumN_congr{n:Nat}{f g:Nat→Nat}(h:∀i,i<n→f i=g i):sumN n f=sumN n g:=by
 induction n with
 | zero=>rfl
 | succ n ih=>simp only [sumN];rw [ih fun i hi=>h i (by omega),h n (by omega)]
theorem sumN_put{n:Nat}{f g:Nat→Nat}{i:Nat}(hi:i<n)(h:∀j,j≠i→g j=f j):sumN n g+f i=sumN n f+g i:=by
 induction n with
 | zero=>omega
 | succ n ih =>
  simp only [sumN]
  by_cases e:i=n
  ·subst e;rw [sumN_congr fun j hj=>h j (by omega)];omega
  ·have:=ih (by omega);rw [h n (fun e'=>e e'.symm)];omega
theorem sumN_le{n m:Nat}{f:Nat→Nat}(h:∀i,i<n→f i≤m):sumN n f≤m*n:=by
 induction n with
 | zero=>simp [sumN]
 | succ n ih=>simp only [sumN];have:=ih fun i hi=>h i (by omega);have:=h n (by omega);rw [Nat.mul_succ];omega
theorem sumN_ge{n m:Nat}{f:Nat→Nat}(h:∀i,i<n→m≤f i):m*n≤sumN n f:=by
 induction n with
 | zero=>simp [sumN]
 | succ n ih=>simp only [sumN];have:=ih fun i hi=>h i (by omega);have:=h n (by omega);rw [Nat.mul_succ];omega
theorem sumN_add{n:Nat}{f g:Nat→Nat}:sumN n (fun i=>f i+g i)=sumN n f+sumN n g:=by
 induction n with
 | zero=>rfl
 | succ n ih=>simp only [sumN];omega
theorem sumN_zero{n:Nat}{f:Nat→Nat}(h:∀i,i<n→f i=0):sumN n f=0:=by
 induction n with
 | zero=>rfl
 | succ n ih=>simp only [sumN];rw [ih fun i hi=>h i (by omega),h n (by omega)]
structure Tb where
 n:Nat
 gs:Nat→Gp
 len:Int
 tombs:Int
def cntT(k:Nat)(t:Tb):Nat:=sumN t.n fun i=>count k (t.gs i)
def Tb.left(t:Tb):Int:=7*(t.n:Int)-t.len-t.tombs
structure Tb.Ok(t:Tb):Prop where
 n:okN t.n
 gs:∀i,(t.gs i).Ok
 len:t.len=cntT 3 t
 tombs:t.tombs=cntT 2 t
 room:0≤t.left
def upd(gs:Nat→Gp)(i:Nat)(g:Gp):Nat→Gp:=fun j=>if j=i then g else gs j
theorem upd_same(gs:Nat→Gp)(i:Nat)(g:Gp):upd gs i g i=g:=if_pos rfl
theorem upd_ne(gs:Nat→Gp){i j:Nat}(g:Gp)(h:j≠i):upd gs i g j=gs j:=if_neg h
theorem upd_id(gs:Nat→Gp)(i:Nat):upd gs i (gs i)=gs:=by
 funext j;unfold upd;split
 ·next h=>rw [h]
 ·rfl
def Tb.new(n:Nat):Tb:=⟨n,fun _=>.new,0,0⟩
theorem count_new(k:Nat):count k .new=if k=1 then 8 else 0:=by
 by_cases h:k=1
 ·subst h;rfl
 ·rw [if_neg h,count_zero]
  have : ∀i,is k .new i=false:=fun i=>by unfold is;exact decide_eq_false (fun e=>h e.symm)
  simp [this]
theorem Tb.Ok.new{n:Nat}(h:okN n):(Tb.new n).Ok:=by
 have z:∀k,k≠1→cntT k (Tb.new n)=0:=fun k hk=>sumN_zero fun i _=>by show count k .new=0;rw [count_new,if_neg hk]
 refine⟨h,fun _=>Gp.Ok.new, ?_, ?_, ?_⟩
 ·rw [z 3 (by decide)];rfl
 ·rw [z 2 (by decide)];rfl
 ·show 0≤7*(n:Int)-0-0;omega
theorem kinds8{g:Gp}(h:g.Ok):count 1 g+count 2 g+count 3 g=8:=by
 have b:∀k,(is 1 g k).toNat+(is 2 g k).toNat+(is 3 g k).toNat=1:=fun k=>by
  unfold is
  rcases (h k).kind with e|e|e <;> rw [e] <;> rfl
 unfold count cntB;have:=b 0;have:=b 1;have:=b 2;have:=b 3;have:=b 4;have:=b 5;have:=b 6;have:=b 7;omega
theorem cntT_le(k:Nat)(t:Tb):cntT k t≤8*t.n:=sumN_le fun i _=>count_le k _
theorem some_open{t:Tb}(h:t.Ok):∃i,i<t.n∧opens (t.gs i)=true:=by
 apply Classical.byContradiction
 intro hn
 have e:∀i,i<t.n→8≤count 2 (t.gs i)+count 3 (t.gs i):=fun i hi=>by
  have h1:¬opens (t.gs i)=true:=fun e=>hn ⟨i,hi,e⟩
  rw [opens_count,decide_eq_true_eq] at h1;have:=kinds8 (h.gs i);omega
 have s:=sumN_ge e;rw [sumN_add] at s;have h1:=h.room;have h2:=h.len;have h3:=h.tombs;have h4:=okN_pos h.n;unfold Tb.left at h1;unfold cntT at h2 h3;omega
def seen(p:Nat→Bool):List Nat→List Nat
 | []=>[]
 | i::l=>if p i=true then [i] else i::seen p l
theorem seen_prefix(p:Nat→Bool):∀l,seen p l <+: l
 | []=>List.prefix_refl _
 | i::l=>by
  unfold seen;split
  ·exact⟨l,rfl⟩
  ·exact (List.prefix_cons_inj i).2 (seen_prefix p l)
theorem seen_all{p:Nat→Bool}:∀{l:List Nat},(∀i∈l,p i=false)→seen p l=l
 | [],_=>rfl
 | i::l,h=>by
  unfold seen;rw [if_neg (by rw [h i (by simp)];decide),seen_all fun j hj=>h j (by simp [hj])]
theorem seen_at{p:Nat→Bool}{x:Nat}(hx:p x=true):∀{pre l:List Nat},pre++[x] <+: l→(∀i∈pre,p i=false)→seen p l=pre++[x]
 | [],l,h,_=>by
  obtain⟨r,rfl⟩:=h;show seen p (x::r)=_;unfold seen;rw [if_pos hx];rfl
 | i::pre,l,h,hp=>by
  obtain⟨r,rfl⟩:=h;show seen p (i::(pre++[x]++r))=_;unfold seen;rw [if_neg (by rw [hp i (by simp)];decide),seen_at hx ⟨r,rfl⟩ fun j hj=>hp j (by simp [hj])];rfl
theorem seen_is(p:Nat→Bool):∀l,(seen p l=l∧∀i∈l,p i=false)∨∃pre x,seen p l=pre++[x]∧pre++[x] <+: l∧(∀i∈pre,p i=false)∧p x=true
 | []=>.inl ⟨rfl,fun i hi=>by cases hi⟩
 | i :: l=>by
  cases hp:p i
  ·rcases seen_is p l with⟨h1,h2⟩|⟨pre,x,h1,h2,h3,h4⟩
   ·refine .inl ⟨by unfold seen;rw [if_neg (by rw [hp];decide),h1],fun j hj=>?_⟩
    rcases List.mem_cons.1 hj with rfl|hj
    ·exact hp
    ·exact h2 j hj
   ·refine .inr ⟨i::pre,x,by unfold seen;rw [if_neg (by rw [hp];decide),h1];rfl,(List.prefix_cons_inj i).2 h2,fun j hj=>?_,h4⟩
    rcases List.mem_cons.1 hj with rfl|hj
    ·exact hp
    ·exact h3 j hj
  ·exact .inr ⟨[],i,by unfold seen;rw [if_pos hp];rfl,⟨l,rfl⟩,fun j hj=>(by cases hj),hp⟩
def lastOf(l:List Nat):Nat:=l.getLast?.getD 0
theorem lastOf_snoc(l:List Nat)(x:Nat):lastOf (l++[x])=x:=by simp [lastOf]
theorem lastOf_mem{l:List Nat}(h:l≠[]):lastOf l∈l:=by
 unfold lastOf;rw [List.getLast?_eq_some_getLast h];exact List.getLast_mem h
def roomOf(f:Nat→Bool)(l:List Nat):Nat:=match l.find? f with|some i=>i|none=>lastOf l
theorem roomOf_mem{f:Nat→Bool}{l:List Nat}(h:l≠[]):roomOf f l∈l:=by
 unfold roomOf;split
 ·next i hi=>exact List.mem_of_find?_eq_some hi
 ·exact lastOf_mem h
theorem roomOf_snoc(f:Nat→Bool)(l:List Nat)(x:Nat):roomOf f (l++[x])=if (l.any f)=true then roomOf f l else x:=by
 unfold roomOf;rw [List.find?_append,lastOf_snoc];cases hf:l.find? f with
 | some i =>
  have : l.any f=true:=by
   rw [List.any_eq_true];exact⟨i,List.mem_of_find?_eq_some hf,List.find?_some hf⟩
  simp [this]
 | none =>
  have : l.any f=false:=by
   rw [List.any_eq_false];exact fun i hi=>by simpa using List.find?_eq_none.1 hf i hi
  rw [this];simp only [Bool.false_eq_true,if_false,Option.none_or];cases hx:f x
  ·rw [List.find?_cons_of_neg (by rw [hx];decide)];rfl
  ·rw [List.find?_cons_of_pos hx]
def stp(t:Tb)(key h i:Nat):Bool:=opens (t.gs i)||decide (0≤find key h (t.gs i))
def free(t:Tb)(i:Nat):Bool:=decide (0≤least (t.gs i))
def path(t:Tb)(h:Nat):List Nat:=wl (h/128) t.n
def sn(t:Tb)(key h:Nat):List Nat:=seen (stp t key h) (path t h)
def lastG(t:Tb)(key h:Nat):Nat:=lastOf (sn t key h)
def roomG(t:Tb)(key h:Nat):Nat:=roomOf (free t) (sn t key h)
def looks(t:Tb)(key h:Nat):Nat:=(sn t key h).length
def slot(t:Tb)(key h:Nat):Int:=find key h (t.gs (lastG t key h))
theorem sn_prefix(t:Tb)(key h:Nat):sn t key h <+: path t h:=seen_prefix _ _
theorem sn_ne(t:Tb)(key h:Nat)(hn:okN t.n):sn t key h≠[]:=by
 have hl:(path t h).length=t.n:=wl_length _ _;have hp:=okN_pos hn;unfold sn;cases e:path t h with
 | nil=>rw [e] at hl;simp at hl;omega
 | cons i l=>unfold seen;split <;> simp
theorem path_lt{t:Tb}{h i:Nat}(hn:okN t.n)(hi:i∈path t h):i<t.n:=wl_lt _ _ _ (okN_pos hn) hi
theorem lastG_mem(t:Tb)(key h:Nat)(hn:okN t.n):lastG t key h∈sn t key h:=lastOf_mem (sn_ne t key h hn)
theorem roomG_mem(t:Tb)(key h:Nat)(hn:okN t.n):roomG t key h∈sn t key h:=roomOf_mem (sn_ne t key h hn)
theorem lastG_lt(t:Tb)(key h:Nat)(hn:okN t.n):lastG t key h<t.n:=path_lt hn ((sn_prefix t key h).subset (lastG_mem t key h hn))
theorem roomG_lt(t:Tb)(key h:Nat)(hn:okN t.n):roomG t key h<t.n:=path_lt hn ((sn_prefix t key h).subset (roomG_mem t key h hn))
theorem looks_le(t:Tb)(key h:Nat):looks t key h≤t.n:=by
 have:=(sn_prefix t key h).length_le
 rwa [show (path t h).length=t.n from wl_length _ _] at this
theorem none_seen{t:Tb}{key h:Nat}(hs:slot t key h<0):∀i∈sn t key h,find key h (t.gs i)<0:=by
 intro i hi
 have key1:∀i,stp t key h i=false→find key h (t.gs i)<0:=fun i e=>by
  unfold stp at e;rw [Bool.or_eq_false_iff,decide_eq_false_iff_not] at e;omega
 unfold slot lastG sn at hs;unfold sn at hi
 rcases seen_is (stp t key h) (path t h) with⟨h1,h2⟩|⟨pre,x,h1,h2,h3,h4⟩
 ·rw [h1] at hi;exact key1 i (h2 i hi)
 ·rw [h1] at hi hs
  rw [lastOf_snoc] at hs
  rcases List.mem_append.1 hi with hi|hi
  ·exact key1 i (h3 i hi)
  ·obtain rfl:i=x:=by simpa using hi
   exact hs
theorem room_none{t:Tb}{key h:Nat}(hn:okN t.n)(hs:slot t key h<0):find key h (t.gs (roomG t key h))<0:=none_seen hs _ (roomG_mem t key h hn)
theorem find_cases(key h:Nat)(g:Gp):(find key h g=-1∧∀k,k<8→hit key h g k=false)∨∃k:Nat,k<8∧find key h g=k∧hit key h g k=true:=by
 rcases scan_is (hit key h g) with h|⟨i,h1,h2,h3,_⟩
 ·exact .inl h
 ·exact .inr ⟨i,h1,h2,h3⟩
theorem hit_is{key h:Nat}{g:Gp}{k:Nat}(hh:hit key h g k=true):(g k).kind=3∧(g k).key=key∧(g k).hash%128=h%128:=by
 unfold hit isH at hh;simp only [Bool.and_eq_true,decide_eq_true_eq] at hh;exact⟨hh.1.1,hh.2,hh.1.2⟩
theorem least_cases(g:Gp):(least g=-1∧∀k,k<8→(g k).kind=3)∨∃k:Nat,k<8∧least g=k∧(g k).kind≠3:=by
 rcases scan_is (fun k=>!is 3 g k) with⟨h1,h2⟩|⟨i,h1,h2,h3,_⟩
 ·exact .inl ⟨h1,fun k hk=>by have:=h2 k hk;unfold is at this;simpa using this⟩
 ·refine .inr ⟨i,h1,h2, ?_⟩
  unfold is at h3;simpa using h3
def Tb.val(t:Tb)(a k:Nat)(v:Nat):Tb:={ t with gs:=upd t.gs a ((t.gs a).put k { t.gs a k with val:=v }) }
def Tb.put(t:Tb)(b k:Nat)(e:Sl):Tb:={ t with gs:=upd t.gs b ((t.gs b).put k e),len:=t.len+1,tombs:=if is 2 (t.gs b) k=true then t.tombs-1 else t.tombs }
def Tb.era(t:Tb)(a k:Nat):Tb:={ t with gs:=upd t.gs a ((t.gs a).put k (erased (t.gs a))),len:=t.len-1,tombs:=if opens (t.gs a)=true then t.tombs else t.tombs+1 }
theorem cntT_upd{t:Tb}{a k:Nat}(ha:a<t.n)(hk:k<8)(s:Sl)(c:Nat)(len tombs:Int) :
  cntT c ⟨t.n,upd t.gs a ((t.gs a).put k s),len,tombs⟩+(is c (t.gs a) k).toNat=cntT c t+(decide (s.kind=c)).toNat:=by
 have h1:=sumN_put (n:=t.n) (f:=fun i=>count c (t.gs i)) (g:=fun i=>count c (upd t.gs a ((t.gs a).put k s) i)) ha (fun j hj=>by rw [upd_ne _ _ hj]);simp only [upd_same] at h1;have h2:=count_put c (t.gs a) hk s;show sumN t.n (fun i=>count c (upd t.gs a ((t.gs a).put k s) i))+(is c (t.gs a) k).toNat=sumN t.n (fun i=>count c (t.gs i))+(decide (s.kind=c)).toNat;omega
theorem upd_ok{gs:Nat→Gp}(h:∀i,(gs i).Ok){a:Nat}{g:Gp}(hg:g.Ok):∀i,(upd gs a g i).Ok:=fun i=>by unfold upd;split;exact hg;exact h i
theorem is_of{n:Nat}{g:Gp}{k:Nat}(h:(g k).kind=n):is n g k=true:=decide_eq_true h
theorem is_not'{n:Nat}{g:Gp}{k:Nat}(h:(g k).kind≠n):is n g k=false:=decide_eq_false h
theorem Tb.Ok.val{t:Tb}(h:t.Ok){a k v:Nat}(ha:a<t.n)(hk:k<8)(h3:(t.gs a k).kind=3)(hv:v<18446744073709551616):(t.val a k v).Ok:=by
 have c:∀c,cntT c (t.val a k v)=cntT c t:=fun c=>by
  have:=cntT_upd (t:=t) ha hk { t.gs a k with val:=v } c t.len t.tombs;have e:decide (({ t.gs a k with val:=v }:Sl).kind=c)=is c (t.gs a) k:=rfl;rw [e] at this;show cntT c ⟨t.n,upd t.gs a ((t.gs a).put k { t.gs a k with val:=v }),t.len,t.tombs⟩=_;omega
 refine⟨h.n,upd_ok h.gs ((h.gs a).put _ ⟨(h.gs a k).kind,(h.gs a k).key,hv,(h.gs a k).hash,fun e=>absurd h3 e⟩), ?_, ?_,h.room⟩
 ·rw [c 3];exact h.len
 ·rw [c 2];exact h.tombs
theorem Tb.Ok.put{t:Tb}(h:t.Ok){b k:Nat}{e:Sl}(hb:b<t.n)(hk:k<8)(h3:(t.gs b k).kind≠3)(he:e.Ok)(e3:e.kind=3)(hl:1≤t.left):(t.put b k e).Ok:=by
 have c3:=cntT_upd (t:=t) hb hk e 3 (t.len+1) (if is 2 (t.gs b) k=true then t.tombs-1 else t.tombs);have c2:=cntT_upd (t:=t) hb hk e 2 (t.len+1) (if is 2 (t.gs b) k=true then t.tombs-1 else t.tombs);rw [e3,is_not' h3] at c3;rw [e3] at c2;have hl':=h.len;have ht':=h.tombs;refine⟨h.n,upd_ok h.gs ((h.gs b).put _ he), ?_, ?_, ?_⟩
 ·show t.len+1=_
  simp at c3
  show t.len+1=((cntT 3 ⟨t.n,upd t.gs b ((t.gs b).put k e),t.len+1,if is 2 (t.gs b) k=true then t.tombs-1 else t.tombs⟩:Nat):Int);omega
 ·show (if is 2 (t.gs b) k=true then t.tombs-1 else t.tombs)=((cntT 2 ⟨t.n,upd t.gs b ((t.gs b).put k e),t.len+1,if is 2 (t.gs b) k=true then t.tombs-1 else t.tombs⟩:Nat):Int)
  generalize hx:cntT 2 ⟨t.n,upd t.gs b ((t.gs b).put k e),t.len+1,if is 2 (t.gs b) k=true then t.tombs-1 else t.tombs⟩=x at c2;cases hi:is 2 (t.gs b) k <;> rw [hi] at c2 <;> simp at c2 ⊢ <;> omega
 ·show 0≤7*(t.n:Int)-(t.len+1)-(if is 2 (t.gs b) k=true then t.tombs-1 else t.tombs)
  unfold Tb.left at hl
  split <;> omega
theorem Tb.Ok.era{t:Tb}(h:t.Ok){a k:Nat}(ha:a<t.n)(hk:k<8)(h3:(t.gs a k).kind=3):(t.era a k).Ok:=by
 have c3:=cntT_upd (t:=t) ha hk (erased (t.gs a)) 3 (t.len-1) (if opens (t.gs a)=true then t.tombs else t.tombs+1);have c2:=cntT_upd (t:=t) ha hk (erased (t.gs a)) 2 (t.len-1) (if opens (t.gs a)=true then t.tombs else t.tombs+1);have n3:decide ((erased (t.gs a)).kind=3)=false:=by unfold erased;split <;> rfl
 have n2:decide ((erased (t.gs a)).kind=2)=!opens (t.gs a):=by unfold erased;cases opens (t.gs a) <;> rfl
 rw [n3,is_of h3] at c3;rw [n2,is_not' (n:=2) (by omega)] at c2;have hl':=h.len;have ht':=h.tombs;have hr:=h.room;refine⟨h.n,upd_ok h.gs ((h.gs a).put _ (erased_ok _)), ?_, ?_, ?_⟩
 ·simp at c3
  show t.len-1=((cntT 3 ⟨t.n,upd t.gs a ((t.gs a).put k (erased (t.gs a))),t.len-1,if opens (t.gs a)=true then t.tombs else t.tombs+1⟩:Nat):Int);omega
 ·show (if opens (t.gs a)=true then t.tombs else t.tombs+1)=((cntT 2 ⟨t.n,upd t.gs a ((t.gs a).put k (erased (t.gs a))),t.len-1,if opens (t.gs a)=true then t.tombs else t.tombs+1⟩:Nat):Int)
  generalize hx:cntT 2 ⟨t.n,upd t.gs a ((t.gs a).put k (erased (t.gs a))),t.len-1,if opens (t.gs a)=true then t.tombs else t.tombs+1⟩=x at c2;cases ho:opens (t.gs a) <;> rw [ho] at c2 <;> simp at c2 ⊢ <;> omega
 ·show 0≤7*(t.n:Int)-(t.len-1)-(if opens (t.gs a)=true then t.tombs else t.tombs+1)
  unfold Tb.left at hr
  split <;> omega
def Tb.replace(t:Tb)(key h v:Nat):Tb:=if 0≤slot t key h then t.val (lastG t key h) (slot t key h).toNat v else t
def Tb.remove(t:Tb)(key h:Nat):Tb:=if 0≤slot t key h then t.era (lastG t key h) (slot t key h).toNat else t
def roomE(t:Tb)(key h:Nat):Nat:=if t.left<1 then 2 else if least (t.gs (roomG t key h))<0 then 2 else 0
def Tb.place(t:Tb)(key h v:Nat):Tb:=if roomE t key h=0 then t.put (roomG t key h) (least (t.gs (roomG t key h))).toNat ⟨3,key,v,h⟩ else t
def isThere(t:Tb)(key h:Nat):Bool:=decide (0≤slot t key h)
def putE'(t:Tb)(key h:Nat):Nat:=if isThere t key h=true then 0 else roomE t key h
def putB'(t:Tb)(key h:Nat):Bool:=!isThere t key h&&decide (roomE t key h=0)
def Tb.puts(t:Tb)(key h v:Nat):Tb:=if isThere t key h=true then t.replace key h v else t.place key h v
def entOf(t:Tb)(key h:Nat):Sl:=if isThere t key h=true then t.gs (lastG t key h) (slot t key h).toNat else⟨1,0,0,0⟩
theorem there_is{t:Tb}{key h:Nat}(ht:isThere t key h=true):∃k:Nat,k<8∧slot t key h=k∧hit key h (t.gs (lastG t key h)) k=true:=by
 unfold isThere at ht;rw [decide_eq_true_eq] at ht
 rcases find_cases key h (t.gs (lastG t key h)) with⟨e,_⟩|⟨k,h1,h2,h3⟩
 ·unfold slot at ht;omega
 ·exact⟨k,h1,h2,h3⟩
theorem slot_neg{t:Tb}{key h:Nat}(ht:isThere t key h=false):slot t key h=-1:=by
 unfold isThere at ht;rw [decide_eq_false_iff_not] at ht
 rcases find_cases key h (t.gs (lastG t key h)) with⟨e,_⟩|⟨k,h1,h2,h3⟩
 ·exact e
 ·unfold slot at ht;omega
theorem replace_at{t:Tb}{key h k:Nat}(hs:slot t key h=(k:Nat))(v:Nat):t.replace key h v=t.val (lastG t key h) k v:=by
 unfold Tb.replace;rw [hs,if_pos (by omega)];rfl
theorem remove_at{t:Tb}{key h k:Nat}(hs:slot t key h=(k:Nat)):t.remove key h=t.era (lastG t key h) k:=by
 unfold Tb.remove;rw [hs,if_pos (by omega)];rfl
theorem Tb.Ok.replace{t:Tb}(h:t.Ok){key hs v:Nat}(hv:v<18446744073709551616):(t.replace key hs v).Ok:=by
 cases ht:isThere t key hs
 ·unfold Tb.replace;rw [slot_neg ht,if_neg (by decide)];exact h
 ·obtain⟨k,h1,h2,h3⟩:=there_is ht
  rw [replace_at h2];exact h.val (lastG_lt t key hs h.n) h1 (hit_is h3).1 hv
theorem Tb.Ok.remove{t:Tb}(h:t.Ok){key hs:Nat}:(t.remove key hs).Ok:=by
 cases ht:isThere t key hs
 ·unfold Tb.remove;rw [slot_neg ht,if_neg (by decide)];exact h
 ·obtain⟨k,h1,h2,h3⟩:=there_is ht
  rw [remove_at h2];exact h.era (lastG_lt t key hs h.n) h1 (hit_is h3).1
theorem room_is{t:Tb}{key h:Nat}(he:roomE t key h=0):1≤t.left∧∃k:Nat,k<8∧least (t.gs (roomG t key h))=k∧(t.gs (roomG t key h) k).kind≠3:=by
 unfold roomE at he
 split at he
 ·cases he
 ·split at he
  ·cases he
  ·next h1 h2 =>
   refine⟨by omega, ?_⟩
   rcases least_cases (t.gs (roomG t key h)) with⟨e,_⟩|h3
   ·omega
   ·exact h3
theorem place_at{t:Tb}{key h k:Nat}(he:roomE t key h=0)(hk:least (t.gs (roomG t key h))=(k:Nat))(v:Nat):t.place key h v=t.put (roomG t key h) k ⟨3,key,v,h⟩:=by
 unfold Tb.place;rw [if_pos he,hk];rfl
theorem place_no{t:Tb}{key h:Nat}(he:roomE t key h≠0)(v:Nat):t.place key h v=t:=by unfold Tb.place;rw [if_neg he]
theorem Tb.Ok.place{t:Tb}(h:t.Ok){key hs v:Nat}(hk:key<18446744073709551616)(hh:hs<18446744073709551616)(hv:v<18446744073709551616):(t.place key hs v).Ok:=by
 by_cases he:roomE t key hs=0
 ·obtain⟨h1,k,h2,h3,h4⟩:=room_is he
  rw [place_at he h3];exact h.put (roomG_lt t key hs h.n) h2 h4 (.of_full hk hv hh) rfl h1
 ·rw [place_no he];exact h
theorem Tb.Ok.puts{t:Tb}(h:t.Ok){key hs v:Nat}(hk:key<18446744073709551616)(hh:hs<18446744073709551616)(hv:v<18446744073709551616):(t.puts key hs v).Ok:=by
 unfold Tb.puts;split
 ·exact h.replace hv
 ·exact h.place hk hh hv
theorem replace_n(t:Tb)(key h v:Nat):(t.replace key h v).n=t.n:=by unfold Tb.replace;split <;> rfl
theorem remove_n(t:Tb)(key h:Nat):(t.remove key h).n=t.n:=by unfold Tb.remove;split <;> rfl
theorem place_n(t:Tb)(key h v:Nat):(t.place key h v).n=t.n:=by unfold Tb.place;split <;> rfl
theorem puts_n(t:Tb)(key h v:Nat):(t.puts key h v).n=t.n:=by unfold Tb.puts;split;exact replace_n ..;exact place_n ..
theorem replace_len(t:Tb)(key h v:Nat):(t.replace key h v).len=t.len:=by unfold Tb.replace;split <;> rfl
def Stands(t:Tb)(key i k:Nat):Prop:=i<t.n∧k<8∧(t.gs i k).kind=3∧(t.gs i k).key=key
structure Inv(H:Nat→Nat)(t:Tb):Prop where
 ok:t.Ok
 hash:∀key i k,Stands t key i k→(t.gs i k).hash=H key
 uniq:∀key i k j l,Stands t key i k→Stands t key j l→i=j∧k=l
 reach:∀key i k,Stands t key i k→∃pre,pre++[i] <+: path t (H key)∧∀j∈pre,opens (t.gs j)=false
def Rep(H:Nat→Nat)(t:Tb)(M:Nat→Option Nat):Prop:=Inv H t∧∀key v,M key=some v↔∃i k,Stands t key i k∧(t.gs i k).val=v
theorem stands_hit{t:Tb}{H:Nat→Nat}(h:Inv H t){key i k:Nat}(hs:Stands t key i k):hit key (H key) (t.gs i) k=true:=by
 unfold hit isH;rw [hs.2.2.1,hs.2.2.2,h.hash _ _ _ hs];simp
theorem hit_stands{t:Tb}{key h i k:Nat}(hi:i<t.n)(hk:k<8)(hh:hit key h (t.gs i) k=true):Stands t key i k:=⟨hi,hk,(hit_is hh).1,(hit_is hh).2.1⟩
theorem found{t:Tb}{H:Nat→Nat}(h:Inv H t){key i k:Nat}(hs:Stands t key i k):lastG t key (H key)=i∧slot t key (H key)=k:=by
 obtain⟨pre,hp,ho⟩:=h.reach _ _ _ hs
 have hfi:find key (H key) (t.gs i)=k:=by
  rcases find_cases key (H key) (t.gs i) with⟨_,hn⟩|⟨k',h1,h2,h3⟩
  ·have:=hn k hs.2.1;rw [stands_hit h hs] at this;cases this
  ·rw [h2,(h.uniq _ _ _ _ _ hs (hit_stands hs.1 h1 h3)).2]
 have hno:∀j∈pre,stp t key (H key) j=false:=fun j hj=>by
  unfold stp;rw [ho j hj,Bool.false_or,decide_eq_false_iff_not];intro hge
  rcases find_cases key (H key) (t.gs j) with⟨e,_⟩|⟨k',h1,h2,h3⟩
  ·omega
  ·have hjn:j<t.n:=path_lt h.ok.n (hp.subset (by simp [hj]))
   have e:=(h.uniq _ _ _ _ _ hs (hit_stands hjn h1 h3)).1;subst e;exact prefix_new h.ok.n hj hp
 have hst:stp t key (H key) i=true:=by unfold stp;rw [hfi];simp
 have hsn:sn t key (H key)=pre++[i]:=seen_at hst hp hno;have hl:lastG t key (H key)=i:=by unfold lastG;rw [hsn,lastOf_snoc]
 exact⟨hl,by unfold slot;rw [hl,hfi]⟩
theorem there_stands{t:Tb}{H:Nat→Nat}(h:Inv H t){key:Nat}(ht:isThere t key (H key)=true):∃k:Nat,slot t key (H key)=k∧Stands t key (lastG t key (H key)) k:=by
 obtain⟨k,h1,h2,h3⟩:=there_is ht;exact⟨k,h2,hit_stands (lastG_lt t key (H key) h.ok.n) h1 h3⟩
theorem Rep.none_iff{t:Tb}{H:Nat→Nat}{M:Nat→Option Nat}(h:Rep H t M)(key:Nat):M key=none↔∀i k,¬Stands t key i k:=by
 constructor
 ·intro e i k hs
  have:=(h.2 key (t.gs i k).val).2 ⟨i,k,hs,rfl⟩;rw [e] at this;cases this
 ·intro hn
  cases e:M key with
  | none=>rfl
  | some v=>obtain⟨i,k,hs,_⟩:=(h.2 key v).1 e;exact absurd hs (hn i k)
theorem Rep.there{t:Tb}{H:Nat→Nat}{M:Nat→Option Nat}(h:Rep H t M)(key:Nat):isThere t key (H key)=(M key).isSome:=by
 cases e:M key with
 | none =>
  cases ht:isThere t key (H key) with
  | false=>rfl
  | true=>obtain⟨k,_,hs⟩:=there_stands h.1 ht;exact absurd hs ((h.none_iff key).1 e _ _)
 | some v =>
  obtain⟨i,k,hs,_⟩:=(h.2 key v).1 e;have:=(found h.1 hs).2;unfold isThere;rw [this];simp
theorem Rep.new{n:Nat}(hn:okN n)(H:Nat→Nat):Rep H (Tb.new n) fun _=>none:=by
 have ns:∀key i k,¬Stands (Tb.new n) key i k:=fun key i k hs=>by have:=hs.2.2.1;revert this;show (Sl.empty).kind=3→False;decide
 refine⟨⟨.new hn,fun key i k hs=>absurd hs (ns _ _ _),fun key i k j l hs=>absurd hs (ns _ _ _),fun key i k hs=>absurd hs (ns _ _ _)⟩,fun key v=>⟨fun e=>(by cases e),fun⟨i,k,hs,_⟩=>absurd hs (ns _ _ _)⟩⟩
theorem stands_upd{t:Tb}{a k:Nat}{s:Sl}{len tombs:Int}{key i l:Nat}(hne:¬(i=a∧l=k)):Stands ⟨t.n,upd t.gs a ((t.gs a).put k s),len,tombs⟩ key i l↔Stands t key i l:=by
 have e:(upd t.gs a ((t.gs a).put k s)) i l=t.gs i l:=by
  by_cases h:i=a
  ·subst h;rw [upd_same];exact put_ne _ _ fun e=>hne ⟨rfl,e⟩
  ·rw [upd_ne _ _ h]
 unfold Stands;show (_∧_∧((upd t.gs a ((t.gs a).put k s)) i l).kind=3∧((upd t.gs a ((t.gs a).put k s)) i l).key=key)↔_;rw [e]
theorem slot_upd{gs:Nat→Gp}{a k:Nat}{s:Sl}:(upd gs a ((gs a).put k s)) a k=s:=by rw [upd_same,put_same]
theorem slot_other{gs:Nat→Gp}{a k i l:Nat}{s:Sl}(hne:¬(i=a∧l=k)):(upd gs a ((gs a).put k s)) i l=gs i l:=by
 by_cases h:i=a
 ·subst h;rw [upd_same];exact put_ne _ _ fun e=>hne ⟨rfl,e⟩
 ·rw [upd_ne _ _ h]
theorem opens_upd{gs:Nat→Gp}{a k:Nat}{s:Sl}(hs:opens (gs a)=false→s.kind≠1){j:Nat}(h:opens (gs j)=false):opens ((upd gs a ((gs a).put k s)) j)=false:=by
 by_cases e:j=a
 ·subst e;rw [upd_same];exact opens_put h (hs h)
 ·rw [upd_ne _ _ e];exact h
def set(M:Nat→Option Nat)(key:Nat)(v:Option Nat):Nat→Option Nat:=fun k=>if k=key then v else M k
theorem set_same(M:Nat→Option Nat)(key:Nat)(v:Option Nat):set M key v key=v:=if_pos rfl
theorem set_ne(M:Nat→Option Nat){key k:Nat}(v:Option Nat)(h:k≠key):set M key v k=M k:=if_neg h
theorem Rep.val{t:Tb}{H:Nat→Nat}{M:Nat→Option Nat}(h:Rep H t M){key i k v:Nat}(hs:Stands t key i k)(hv:v<18446744073709551616):Rep H (t.val i k v) (set M key (some v)):=by
 have sx:∀key' i' l,Stands (t.val i k v) key' i' l↔Stands t key' i' l:=fun key' i' l=>by
  by_cases hne:i'=i∧l=k
  ·obtain⟨rfl,rfl⟩:=hne
   unfold Stands Tb.val;simp only [slot_upd]
  ·exact stands_upd hne
 have hsh:∀i' l,((t.val i k v).gs i' l).hash=(t.gs i' l).hash:=fun i' l=>by
  by_cases hne:i'=i∧l=k
  ·obtain⟨rfl,rfl⟩:=hne
   show ((upd t.gs i' ((t.gs i').put l { t.gs i' l with val:=v })) i' l).hash=_;rw [slot_upd]
  ·show ((upd t.gs i ((t.gs i).put k { t.gs i k with val:=v })) i' l).hash=_
   rw [slot_other hne]
 refine⟨⟨h.1.ok.val hs.1 hs.2.1 hs.2.2.1 hv,fun key' i' l hs'=>?_,fun key' i' l j l' h1 h2=>h.1.uniq _ _ _ _ _ ((sx _ _ _).1 h1) ((sx _ _ _).1 h2),fun key' i' l hs'=>?_⟩,fun key' v'=>?_⟩
 ·rw [hsh];exact h.1.hash _ _ _ ((sx _ _ _).1 hs')
 ·obtain⟨pre,h1,h2⟩:=h.1.reach _ _ _ ((sx _ _ _).1 hs')
  exact⟨pre,h1,fun j hj=>opens_upd (fun _=>by show (t.gs i k).kind≠1;rw [hs.2.2.1];decide) (h2 j hj)⟩
 ·by_cases e:key' = key
  ·subst e
   rw [set_same];constructor
   ·intro e'
    cases e'
    refine⟨i,k,(sx _ _ _).2 hs, ?_⟩;show ((upd t.gs i ((t.gs i).put k { t.gs i k with val:=v })) i k).val=v;rw [slot_upd]
   ·rintro ⟨i',l,hs',hv'⟩
    obtain⟨rfl,rfl⟩:=h.1.uniq _ _ _ _ _ hs ((sx _ _ _).1 hs');rw [←hv'];show some v=some ((upd t.gs i ((t.gs i).put k { t.gs i k with val:=v })) i k).val;rw [slot_upd]
  ·rw [set_ne _ _ e,h.2]
   have hv2:∀i' l,Stands t key' i' l→((t.val i k v).gs i' l).val=(t.gs i' l).val:=fun i' l hs'=>by
    have hne:¬(i'=i∧l=k):=by
     rintro ⟨rfl,rfl⟩;exact e (hs'.2.2.2.symm.trans hs.2.2.2)
    show ((upd t.gs i ((t.gs i).put k { t.gs i k with val:=v })) i' l).val=_;rw [slot_other hne]
   constructor
   ·rintro ⟨i',l,hs',hv'⟩;exact⟨i',l,(sx _ _ _).2 hs',by rw [hv2 _ _ hs',hv']⟩
   ·rintro ⟨i',l,hs',hv'⟩;exact⟨i',l,(sx _ _ _).1 hs',by rw [←hv2 _ _ ((sx _ _ _).1 hs'),hv']⟩
theorem Rep.era{t:Tb}{H:Nat→Nat}{M:Nat→Option Nat}(h:Rep H t M){key i k:Nat}(hs:Stands t key i k):Rep H (t.era i k) (set M key none):=by
 have en:(erased (t.gs i)).kind≠3:=by unfold erased;split <;> decide
 have sx:∀key' i' l,Stands (t.era i k) key' i' l↔Stands t key' i' l∧¬(i'=i∧l=k):=fun key' i' l=>by
  by_cases hne:i'=i∧l=k
  ·obtain⟨rfl,rfl⟩:=hne
   refine⟨fun hs'=>?_,fun h'=>absurd ⟨rfl,rfl⟩ h'.2⟩;have h3:=hs'.2.2.1;have e:(t.era i' l).gs i' l=erased (t.gs i'):=slot_upd;rw [e] at h3;exact absurd h3 en
  ·exact⟨fun h'=>⟨(stands_upd hne).1 h',hne⟩,fun h'=>(stands_upd hne).2 h'.1⟩
 have ex:∀i' l,¬(i'=i∧l=k)→(t.era i k).gs i' l=t.gs i' l:=fun i' l hne=>slot_other hne
 refine⟨⟨h.1.ok.era hs.1 hs.2.1 hs.2.2.1,fun key' i' l hs'=>?_,fun key' i' l j l' h1 h2=>h.1.uniq _ _ _ _ _ ((sx _ _ _).1 h1).1 ((sx _ _ _).1 h2).1,fun key' i' l hs'=>?_⟩,fun key' v'=>?_⟩
 ·obtain⟨h1,h2⟩:=(sx _ _ _).1 hs'
  rw [ex _ _ h2];exact h.1.hash _ _ _ h1
 ·obtain⟨h1,h2⟩:=(sx _ _ _).1 hs'
  obtain⟨pre,h3,h4⟩:=h.1.reach _ _ _ h1;exact⟨pre,h3,fun j hj=>opens_upd (fun ho=>by unfold erased;rw [ho];decide) (h4 j hj)⟩
 ·by_cases e:key' = key
  ·subst e
   rw [set_same];refine⟨fun e'=>(by cases e'), ?_⟩;rintro ⟨i',l,hs',_⟩;obtain⟨h1,h2⟩:=(sx _ _ _).1 hs';obtain⟨rfl,rfl⟩:=h.1.uniq _ _ _ _ _ hs h1;exact absurd ⟨rfl,rfl⟩ h2
  ·rw [set_ne _ _ e,h.2]
   constructor
   ·rintro ⟨i',l,hs',hv'⟩
    have hne:¬(i'=i∧l=k):=by
     rintro ⟨rfl,rfl⟩;exact e (hs'.2.2.2.symm.trans hs.2.2.2)
    exact⟨i',l,(sx _ _ _).2 ⟨hs',hne⟩,by rw [ex _ _ hne,hv']⟩
   ·rintro ⟨i',l,hs',hv'⟩
    obtain⟨h1,h2⟩:=(sx _ _ _).1 hs';exact⟨i',l,h1,by rw [←ex _ _ h2,hv']⟩
theorem Rep.put{t:Tb}{H:Nat→Nat}{M:Nat→Option Nat}(h:Rep H t M){key b k v:Nat}(hk:k<8)(h3:(t.gs b k).kind≠3)(hb:b<t.n)(hM:M key=none)(hl:1≤t.left)
  (hr:∃pre,pre++[b] <+: path t (H key)∧∀j∈pre,opens (t.gs j)=false)
  (hkey:key<18446744073709551616)(hh:H key<18446744073709551616)(hv:v<18446744073709551616):Rep H (t.put b k ⟨3,key,v,H key⟩) (set M key (some v)):=by
 have nk:=(h.none_iff key).1 hM;have ek:(t.put b k ⟨3,key,v,H key⟩).gs b k=⟨3,key,v,H key⟩:=slot_upd;have sk:Stands (t.put b k ⟨3,key,v,H key⟩) key b k:=⟨hb,hk,by rw [ek],by rw [ek]⟩
 have sx:∀key' i' l,Stands (t.put b k ⟨3,key,v,H key⟩) key' i' l↔(Stands t key' i' l∧¬(i'=b∧l=k))∨(i'=b∧l=k∧key'=key):=fun key' i' l=>by
  by_cases hne:i'=b∧l=k
  ·obtain⟨rfl,rfl⟩:=hne
   refine⟨fun hs'=>.inr ⟨rfl,rfl, ?_⟩,fun h'=>?_⟩
   ·have:=hs'.2.2.2;rw [ek] at this;exact this.symm
   ·rcases h' with h'|⟨_,_,rfl⟩
    ·exact absurd ⟨rfl,rfl⟩ h'.2
    ·exact sk
  ·refine⟨fun h'=>.inl ⟨(stands_upd hne).1 h',hne⟩,fun h'=>?_⟩
   rcases h' with h'|⟨h1,h2,_⟩
   ·exact (stands_upd hne).2 h'.1
   ·exact absurd ⟨h1,h2⟩ hne
 have ex:∀i' l,¬(i'=b∧l=k)→(t.put b k ⟨3,key,v,H key⟩).gs i' l=t.gs i' l:=fun i' l hne=>slot_other hne
 have op:∀pre h,(pre++[h] <+: path t (H key)→True):=fun _ _ _=>trivial
 refine⟨⟨h.1.ok.put hb hk h3 (.of_full hkey hv hh) rfl hl,fun key' i' l hs'=>?_,fun key' i' l j l' h1 h2=>?_,fun key' i' l hs'=>?_⟩,fun key' v'=>?_⟩
 ·rcases (sx _ _ _).1 hs' with⟨h1,h2⟩|⟨rfl,rfl,rfl⟩
  ·rw [ex _ _ h2];exact h.1.hash _ _ _ h1
  ·rw [ek]
 ·rcases (sx _ _ _).1 h1 with⟨a1,a2⟩|⟨rfl,rfl,rfl⟩
  ·rcases (sx _ _ _).1 h2 with⟨b1,b2⟩|⟨rfl,rfl,rfl⟩
   ·exact h.1.uniq _ _ _ _ _ a1 b1
   ·exact absurd a1 (nk _ _)
  ·rcases (sx _ _ _).1 h2 with⟨b1,b2⟩|⟨rfl,rfl,_⟩
   ·exact absurd b1 (nk _ _)
   ·exact⟨rfl,rfl⟩
 ·rcases (sx _ _ _).1 hs' with⟨h1,h2⟩|⟨rfl,rfl,rfl⟩
  ·obtain⟨pre,p1,p2⟩:=h.1.reach _ _ _ h1
   exact⟨pre,p1,fun j hj=>opens_upd (fun _=>by show (3:Nat)≠1;decide) (p2 j hj)⟩
  ·obtain⟨pre,p1,p2⟩:=hr
   exact⟨pre,p1,fun j hj=>opens_upd (fun _=>by show (3:Nat)≠1;decide) (p2 j hj)⟩
 ·by_cases e:key' = key
  ·subst e
   rw [set_same];constructor
   ·intro e'
    cases e'
    exact⟨b,k,sk,by rw [ek]⟩
   ·rintro ⟨i',l,hs',hv'⟩
    rcases (sx _ _ _).1 hs' with⟨h1,h2⟩|⟨rfl,rfl,_⟩
    ·exact absurd h1 (nk _ _)
    ·rw [ek] at hv';rw [←hv']
  ·rw [set_ne _ _ e,h.2]
   constructor
   ·rintro ⟨i',l,hs',hv'⟩
    have hne:¬(i'=b∧l=k):=by
     rintro ⟨rfl,rfl⟩;exact h3 hs'.2.2.1
    exact⟨i',l,(sx _ _ _).2 (.inl ⟨hs',hne⟩),by rw [ex _ _ hne,hv']⟩
   ·rintro ⟨i',l,hs',hv'⟩
    rcases (sx _ _ _).1 hs' with⟨h1,h2⟩|⟨_,_,h4⟩
    ·exact⟨i',l,h1,by rw [←ex _ _ h2,hv']⟩
    ·exact absurd h4 e
theorem find_split{f:Nat→Bool}:∀{l:List Nat} {b:Nat},l.find? f=some b→∃pre r,l=pre++b::r∧f b=true∧∀j∈pre,f j=false
 | [],b,h=>by cases h
 | i :: l,b,h=>by
  cases hf:f i
  ·rw [List.find?_cons_of_neg (by rw [hf];decide)] at h
   obtain⟨pre,r,h1,h2,h3⟩:=find_split h;refine⟨i::pre,r,by rw [h1];rfl,h2,fun j hj=>?_⟩
   rcases List.mem_cons.1 hj with rfl|hj
   ·exact hf
   ·exact h3 j hj
  ·rw [List.find?_cons_of_pos hf] at h
   cases h
   exact⟨[],l,rfl,hf,fun j hj=>by cases hj⟩
theorem open_free{t:Tb}{i:Nat}(h:free t i=false):opens (t.gs i)=false:=by
 cases ho:opens (t.gs i) with
 | false=>rfl
 | true =>
  obtain⟨k,hk,h1⟩:=(opens_iff _).1 ho;unfold free at h;rw [decide_eq_false_iff_not] at h
  rcases least_cases (t.gs i) with⟨_,e⟩|⟨j,_,h2,_⟩
  ·have:=e k hk;omega
  ·omega
theorem room_reach{t:Tb}{key h:Nat}(hn:okN t.n)(hf:0≤least (t.gs (roomG t key h))):∃pre,pre++[roomG t key h] <+: path t h∧∀j∈pre,opens (t.gs j)=false:=by
 have hp:=sn_prefix t key h;cases e:(sn t key h).find? (free t) with
 | some b =>
  obtain⟨pre,r,h1,h2,h3⟩:=find_split e;have hb:roomG t key h=b:=by unfold roomG roomOf;rw [e]
  rw [hb];refine⟨pre, ?_,fun j hj=>open_free (h3 j hj)⟩;refine List.IsPrefix.trans ?_ hp;rw [h1];exact⟨r,by simp⟩
 | none =>
  have hb:roomG t key h=lastOf (sn t key h):=by unfold roomG roomOf;rw [e]
  have h1:=List.find?_eq_none.1 e _ (lastOf_mem (sn_ne t key h hn));rw [←hb] at h1;unfold free at h1
  simp at h1
  omega
theorem pigeon:∀(n:Nat) (l:List Nat),l.Nodup→(∀x∈l,x<n)→l.length≤n
 | 0,l,_,h=>by
  cases l with
  | nil=>simp
  | cons x l=>have:=h x (by simp);omega
 | n+1,l,hd,h=>by
  have h1:=pigeon n (l.erase n) (hd.erase n) fun x hx=>by
   have h2:=h x (List.mem_of_mem_erase hx);have h3:x≠n:=fun e=>by subst e;exact hd.not_mem_erase hx
   omega
  have:=List.length_erase_le (a:=n) (l:=l)
  by_cases hm:n∈l
  ·rw [List.length_erase_of_mem hm] at h1;omega
  ·rw [List.erase_of_not_mem hm] at h1;omega
theorem path_mem{t:Tb}{h i:Nat}(hn:okN t.n)(hi:i<t.n):i∈path t h:=by
 apply Classical.byContradiction
 intro hx
 have h1:=pigeon t.n (i::path t h) (List.nodup_cons.2 ⟨hx,wl_nodup _ _ hn⟩) fun x hx=>by
  rcases List.mem_cons.1 hx with rfl|hx
  ·exact hi
  ·exact path_lt hn hx
 rw [List.length_cons,show (path t h).length=t.n from wl_length _ _] at h1;omega
theorem room_left{t:Tb}{key h:Nat}(ho:t.Ok)(hs:isThere t key h=false)(hl:1≤t.left):roomE t key h=0:=by
 unfold roomE;rw [if_neg (by omega)]
 split
 ·next hlt =>
  exfalso
  have hf:∀j∈sn t key h,free t j=false:=fun j hj=>by
   cases e:(sn t key h).find? (free t) with
   | some b =>
    have hb:roomG t key h=b:=by unfold roomG roomOf;rw [e]
    have:=List.find?_some e;unfold free at this;rw [decide_eq_true_eq,←hb] at this;omega
   | none=>simpa using List.find?_eq_none.1 e j hj
  have hno:∀j∈sn t key h,stp t key h j=false:=fun j hj=>by
   have h1:=none_seen (t:=t) (key:=key) (h:=h) (by rw [slot_neg hs];decide) j hj;unfold stp;rw [open_free (hf j hj),Bool.false_or,decide_eq_false_iff_not];omega
  rcases seen_is (stp t key h) (path t h) with⟨h1,_⟩|⟨pre,x,h1,_,_,h4⟩
  ·obtain⟨i,hi,hop⟩:=some_open ho
   have hm:i∈sn t key h:=by show i∈seen (stp t key h) (path t h);rw [h1];exact path_mem ho.n hi
   have:=hno i hm;unfold stp at this;rw [hop] at this;cases this
  ·have:=hno x (by show x∈seen (stp t key h) (path t h);rw [h1];simp)
   rw [h4] at this;cases this
 ·rfl
theorem Rep.replace{t:Tb}{H:Nat→Nat}{M:Nat→Option Nat}(h:Rep H t M){key v:Nat}(hM:(M key).isSome=true)(hv:v<18446744073709551616):Rep H (t.replace key (H key) v) (set M key (some v)):=by
 rw [←h.there] at hM;obtain⟨k,h1,h2⟩:=there_stands h.1 hM;rw [replace_at h1];exact h.val h2 hv
theorem Rep.remove{t:Tb}{H:Nat→Nat}{M:Nat→Option Nat}(h:Rep H t M)(key:Nat):Rep H (t.remove key (H key)) (set M key none):=by
 cases hM:M key with
 | none =>
  have e:t.remove key (H key)=t:=by
   have:=h.there key;rw [hM] at this;unfold Tb.remove;rw [slot_neg this,if_neg (by decide)]
  rw [e]
  have e2:set M key none=M:=by
   funext k;unfold set;split
   ·next e=>rw [e,hM]
   ·rfl
  rw [e2];exact h
 | some v =>
  have ht:=h.there key;rw [hM] at ht;obtain⟨k,h1,h2⟩:=there_stands h.1 ht;rw [remove_at h1];exact h.era h2
theorem Rep.place{t:Tb}{H:Nat→Nat}{M:Nat→Option Nat}(h:Rep H t M){key v:Nat}(hM:M key=none)(hl:1≤t.left)
  (hkey:key<18446744073709551616)(hh:H key<18446744073709551616)(hv:v<18446744073709551616):Rep H (t.place key (H key) v) (set M key (some v)):=by
 have ht:=h.there key;rw [hM] at ht;have he:=room_left h.1.ok ht hl;obtain⟨_,k,h2,h3,h4⟩:=room_is he;rw [place_at he h3];exact h.put h2 h4 (roomG_lt t key _ h.1.ok.n) hM hl (room_reach h.1.ok.n (by omega)) hkey hh hv
theorem Rep.puts{t:Tb}{H:Nat→Nat}{M:Nat→Option Nat}(h:Rep H t M){key v:Nat}(hkey:key<18446744073709551616)(hh:H key<18446744073709551616)(hv:v<18446744073709551616) :
  ((M key).isSome=true∨1≤t.left→Rep H (t.puts key (H key) v) (set M key (some v))∧putE' t key (H key)=0∧putB' t key (H key)=!(M key).isSome∧(t.puts key (H key) v).len=t.len+(if (M key).isSome=true then 0 else 1)∧(t.puts key (H key) v).left≤t.left) ∧
  ((M key).isSome=false→t.left<1→t.puts key (H key) v=t∧putE' t key (H key)=2∧putB' t key (H key)=false):=by
 have ht:=h.there key;constructor
 ·intro hc
  cases hM:M key with
  | some u =>
   rw [hM] at ht;have hr:=h.replace (key:=key) (v:=v) (by rw [hM];rfl) hv;have e:t.puts key (H key) v=t.replace key (H key) v:=by unfold Tb.puts;rw [ht];rfl
   rw [e];refine⟨hr,by unfold putE';rw [ht];rfl,by unfold putB';rw [ht];rfl,by rw [replace_len];simp, ?_⟩;unfold Tb.replace;split
   ·exact Int.le_refl _
   ·exact Int.le_refl _
  | none =>
   rw [hM] at ht hc;have hl:1≤t.left:=by rcases hc with hc|hc;cases hc;exact hc
   have ht':isThere t key (H key)=false:=ht;have he:=room_left h.1.ok ht' hl;have hr:=h.place (key:=key) (v:=v) hM hl hkey hh hv;have e:t.puts key (H key) v=t.place key (H key) v:=by unfold Tb.puts;rw [ht'];rfl
   rw [e];obtain⟨_,k,h2,h3,h4⟩:=room_is he;refine⟨hr,by unfold putE';rw [ht',he];rfl,by unfold putB';rw [ht',he];rfl,by rw [place_at he h3];rfl, ?_⟩;rw [place_at he h3];unfold Tb.left Tb.put;simp only
   split <;> omega
 ·intro hM hl
  rw [hM] at ht;have he:roomE t key (H key)=2:=by unfold roomE;rw [if_pos hl]
  refine⟨by unfold Tb.puts;rw [ht,if_neg (by decide),place_no (by rw [he];decide)],by unfold putE';rw [ht,he];rfl,by unfold putB';rw [ht,he];rfl⟩
theorem Rep.remove_len{t:Tb}{H:Nat→Nat}{M:Nat→Option Nat}(h:Rep H t M)(key:Nat):(t.remove key (H key)).len=t.len-(if (M key).isSome=true then 1 else 0):=by
 have ht:=h.there key;cases hM:(M key).isSome
 ·rw [hM] at ht
  unfold Tb.remove;rw [slot_neg ht,if_neg (by decide)];simp
 ·rw [hM] at ht
  obtain⟨k,h1,h2⟩:=there_stands h.1 ht;rw [remove_at h1];rfl
end table
namespace table
open group probe swar split
def entsG(g:Gp):List Sl:=(fulls g).map g
def ents(t:Tb)(k:Nat):List Sl:=(List.range k).flatMap fun i=>entsG (t.gs i)
theorem ents_succ(t:Tb)(k:Nat):ents t (k+1)=ents t k++entsG (t.gs k):=by simp [ents,List.range_succ]
def lstep(h k:Nat)(s:Option Sl)(e:Sl):Option Sl:=
 if lessB e.key e.hash k h=true then s else match s with
  | none=>some e
  | some l=>if lessB e.key e.hash l.key l.hash=true then some e else some l
def lfold(h k:Nat)(s:Option Sl)(l:List Sl):Option Sl:=l.foldl (lstep h k) s
theorem lfold_append(h k:Nat)(s:Option Sl)(l m:List Sl):lfold h k s (l++m)=lfold h k (lfold h k s l) m:=List.foldl_append ..
theorem lfold_snoc(h k:Nat)(s:Option Sl)(l:List Sl)(e:Sl):lfold h k s (l++[e])=lstep h k (lfold h k s l) e:=by rw [lfold_append];rfl
def leastE(t:Tb)(h k:Nat):Option Sl:=lfold h k none (ents t t.n)
theorem mem_ents{t:Tb}{e:Sl}:e∈ents t t.n↔∃i k,i<t.n∧k<8∧(t.gs i k).kind=3∧t.gs i k=e:=by
 unfold ents entsG;simp only [List.mem_flatMap,List.mem_range,List.mem_map];constructor
 ·rintro ⟨i,hi,k,hk,rfl⟩
  exact⟨i,k,hi,fulls_lt hk,fulls_kind hk,rfl⟩
 ·rintro ⟨i,k,hi,hk,h3,rfl⟩
  refine⟨i,hi,k, ?_,rfl⟩;unfold fulls;rw [List.mem_filter];refine⟨?_,is_of h3⟩
  simp;omega
end table
end Go.Proofs.YtdplhgpeggcmdaaGreatDoor
