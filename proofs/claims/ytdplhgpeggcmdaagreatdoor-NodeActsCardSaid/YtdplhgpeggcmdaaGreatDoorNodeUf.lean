/- NodeUf: facts and laws for the walks. -/
import Derived.Test.YtdplhgpeggcmdaaGreatDoorEvDuRf
import Derived.Test.YtdplhgpeggcmdaaGreatDoorDualFc
import Derived.Test.YtdplhgpeggcmdaaGreatDoorTableSort
namespace Go.Proofs.YtdplhgpeggcmdaaGreatDoor
set_option linter.unusedSimpArgs false
set_option linter.unusedVariables false
namespace node
open group probe swar table evac dual
section
variable {H:Nat→Nat} {la N d c n1:Nat} {F:Nat→Option Nat} {t:Nat→Tb} {M:Nat→Nat→Option Nat} {rd:Bool}
theorem du_wide(hN:N=2∨N=3)(hla:la≤1000)(s:Du H la N d F t M c):Du H la N d F t M 5000:=
 ⟨s.rep,s.tg,s.one,s.un,fun i h1 hi=>by
  have a:=(s.rep 0 (by omega)).len;have b:=cntM_le la (M 0);have e:=left_bounds (s.rep i hi).rep.1.ok;have f:=okN_le (s.rep i hi).rep.1.ok.n;unfold Tb.left at e
  omega⟩
theorem puts_none{t:Tb}{M:Nat→Option Nat}(h:RepN H la t M){key v:Nat}(hk:key<la)(hla:la≤1000)(hh:H key<18446744073709551616)(hv:v<18446744073709551616)(h0:M key=none)(hl:t.left<1):t.puts key (H key) v=t:=
 ((h.rep.puts (by omega) hh hv).2 (by rw [h0];rfl) hl).1
theorem up_id(t:Nat→Tb)(i:Nat):up t i (t i)=t:=by
 funext j;unfold up;split
 ·next e=>rw [e]
 ·rfl
theorem du_putW(s:Du H la N d F t M c)(hN:N=2∨N=3)(ht:rd=false→∀j,1≤j→t j=Tb.new n1)(hla:la≤1000)(hH:∀key,key<la→H key<18446744073709551616){key v:Nat}(hk:key<la)(hv:v<18446744073709551616)(more:Bool) :
  (∃F' M',Du H la N d F' (dT t key (H key) v (js rd N d (H key)) more) M' 5000)∧(rd=false→∀j,1≤j→dT t key (H key) v (js rd N d (H key)) more j=Tb.new n1):=by
 have p1:=tgt_pos N d (H key);have p2:=tgt_lt hN d (H key);have keep:∀x,(rd=false→∀j,1≤j→up t 0 x j=Tb.new n1):=fun x hx j hj=>by rw [up_ne _ _ (by omega)];exact ht hx j hj
 rcases s.seek0 hN ht key with⟨i,v0,h1,h2,h3,h4⟩|⟨h1,h2,h5,h6⟩
 ·have eT:dT t key (H key) v (js rd N d (H key)) more=up t i ((t i).puts key (H key) v):=by unfold dT dI;rw [h1];simp
  rw [eT]
  rcases h4 with rfl|⟨rfl,h5,hrd⟩
  ·exact⟨⟨_,_,du_wide hN hla (s.put0 hN hla hH hk hv (.inl (by rw [h3];rfl)))⟩,keep _⟩
  ·exact⟨⟨_,_,du_wide hN hla (s.putT hN hla hH hk hv h5 (.inl (by rw [h3];rfl)))⟩,fun hx=>by rw [hrd] at hx;cases hx⟩
 ·cases more
  ·have eT:dT t key (H key) v (js rd N d (H key)) false=t:=by unfold dT;rw [h1];rfl
   rw [eT];exact⟨⟨_,_,du_wide hN hla s⟩,ht⟩
  ·cases rd
   ·have eT:dT t key (H key) v (js false N d (H key)) true=up t 0 ((t 0).puts key (H key) v):=by unfold dT dI;rw [h1];rfl
    rw [eT]
    by_cases hl:1≤(t 0).left
    ·exact⟨⟨_,_,du_wide hN hla (s.put0 hN hla hH hk hv (.inr ⟨h6,hl⟩))⟩,keep _⟩
    ·rw [puts_none (s.rep 0 (by omega)) hk hla (hH _ hk) hv h5 (by omega),up_id]
     exact⟨⟨_,_,du_wide hN hla s⟩,ht⟩
   ·have eT:dT t key (H key) v (js true N d (H key)) true=up t (tgt N d (H key)) ((t (tgt N d (H key))).puts key (H key) v):=by unfold dT dI;rw [h1];rfl
    rw [eT]
    by_cases hl:1≤(t (tgt N d (H key))).left
    ·exact⟨⟨_,_,du_wide hN hla (s.putT hN hla hH hk hv h5 (.inr hl))⟩,fun hx=>by cases hx⟩
    ·rw [puts_none (s.rep _ p2) hk hla (hH _ hk) hv h6 (by omega),up_id]
     exact⟨⟨_,_,du_wide hN hla s⟩,ht⟩
theorem du_delW(s:Du H la N d F t M c)(hN:N=2∨N=3)(ht:rd=false→∀j,1≤j→t j=Tb.new n1)(hla:la≤1000){key:Nat}(hk:key<la) :
  (∃F' M',Du H la N d F' (eT t key (H key) (js rd N d (H key))) M' 5000)∧(rd=false→∀j,1≤j→eT t key (H key) (js rd N d (H key)) j=Tb.new n1):=by
 obtain⟨⟨M',h⟩,h2⟩:=s.ddel hN ht hk;exact⟨⟨_,_,du_wide hN hla h⟩,h2⟩
theorem mid_good{t1:Nat→Tb}{M1:Nat→Nat→Option Nat}{D:Nat→Prop}{k:Nat}(hN:N=2∨N=3)(hla:la≤1000)(hH:∀key,key<la→H key<18446744073709551616)(s:Du H la N d F t M c){e:Sl}(hg:good1 N d t1 e=true)(hok:e.Ok)(he1:M 0 e.key=some e.val)(he2:e.hash=H e.key)(hno:¬D e.key)(h:MidV H la N d t M D k t1 M1) :
  ∃M2,MidV H la N d t M (fun key=>D key∨key=e.key) (k+1) (mv1 N d t1 e) M2:=by
 have hk:e.key<la:=by
  rcases Nat.lt_or_ge e.key la with h'|h'
  ·exact h'
  ·have:=(s.rep 0 (by omega)).far _ h';rw [this] at he1;cases he1
 obtain⟨_,_,hv,_⟩:=hok;have p1:=tgt_pos N d (H e.key);have p2:=tgt_lt hN d (H e.key)
 have hM:M1 (tgt N d (H e.key)) e.key=none:=by
  rw [h.old _ p1 p2 e.key fun q=>hno q.1];exact s.one _ (by rw [he1];rfl)
 have hl:1≤(t1 (tgt N d (H e.key))).left:=by
  apply Classical.byContradiction
  intro hn;have q:=((h.rep _ p1 p2).rep.puts (v:=e.val) (by omega) (hH _ hk) hv).2 (by rw [hM];rfl) (by omega);unfold good1 at hg;rw [he2,Bool.and_eq_true,decide_eq_true_eq] at hg;rw [q.2.1] at hg;cases hg.2
 obtain⟨a,b,c⟩:=repN_put (h.rep _ p1 p2) (v:=e.val) hk (by omega) (hH _ hk) hv (.inr hl);refine⟨fun i=>if i=tgt N d (H e.key) then set (M1 i) e.key (some e.val) else M1 i,⟨?_,fun i h1 hi=>?_,fun i h1 hi key hc=>?_,fun i h1 hi key hD ht=>?_,fun i h1 hi=>?_,fun i=>?_⟩⟩
 ·unfold mv1;rw [he2,up_ne _ _ (by omega)];exact h.zero
 ·unfold mv1;rw [he2]
  by_cases q:i=tgt N d (H e.key)
  ·subst q;rw [up_same,if_pos rfl];exact a
  ·rw [up_ne _ _ q,if_neg q];exact h.rep i h1 hi
 ·by_cases q:i=tgt N d (H e.key)
  ·rw [if_pos q,set_ne]
   ·exact h.old i h1 hi key fun x=>hc ⟨.inl x.1,x.2⟩
   ·intro x;subst x;exact hc ⟨.inr rfl,q.symm⟩
  ·rw [if_neg q];exact h.old i h1 hi key fun x=>hc ⟨.inl x.1,x.2⟩
 ·by_cases x:key=e.key
  ·subst x
   rw [if_pos ht.symm,set_same,he1]
  ·have hD':D key:=hD.resolve_right x
   split
   ·rw [set_ne _ _ x];exact h.new i h1 hi key hD' ht
   ·exact h.new i h1 hi key hD' ht
 ·have q:=h.cn i h1 hi
  unfold mv1;rw [he2]
  by_cases x:i=tgt N d (H e.key)
  ·subst x;rw [up_same]
   have:=puts_cnt (t1 (tgt N d (H e.key))) e.key (H e.key) e.val;omega
  ·rw [up_ne _ _ x];omega
 ·rw [mv1_n];exact h.n i
theorem mid_goods(hN:N=2∨N=3)(hla:la≤1000)(hH:∀key,key<la→H key<18446744073709551616)(s:Du H la N d F t M c):∀(l:List Sl) (D:Nat→Prop) (k:Nat) (t1:Nat→Tb) (M1:Nat→Nat→Option Nat),goods N d t1 l=true →
  (∀e∈l,e.Ok∧M 0 e.key=some e.val∧e.hash=H e.key∧¬D e.key)→(l.map Sl.key).Nodup→MidV H la N d t M D k t1 M1→∃M2 D2,MidV H la N d t M D2 (k+l.length) (mvs N d t1 l) M2∧∀key,D2 key↔(D key∨∃e∈l,e.key=key)
 | [],D,k,t1,M1,_,_,_,h=>⟨M1,D,h,fun key=>⟨.inl,fun q=>q.resolve_right fun⟨e,he,_⟩=>by cases he⟩⟩
 | e :: l,D,k,t1,M1,hg,he,hn,h=>by
  obtain⟨q0,q1,q2,q3⟩:=he e List.mem_cons_self
  have hg':good1 N d t1 e=true∧goods N d (mv1 N d t1 e) l=true:=by
   have:=hg;unfold goods at this
   rwa [Bool.and_eq_true] at this
  obtain⟨M2,h2⟩:=mid_good hN hla hH s hg'.1 q0 q1 q2 q3 h;have hn':=List.nodup_cons.1 hn
  obtain⟨M3,D3,h3,h4⟩:=mid_goods hN hla hH s l _ (k+1) _ _ hg'.2 (fun x hx=>by
   obtain⟨z,a,b,c⟩:=he x (List.mem_cons_of_mem _ hx)
   exact⟨z,a,b,fun hD=>hD.elim c fun hk=>hn'.1 (by rw [←hk];exact List.mem_map_of_mem hx)⟩) hn'.2 h2
  refine⟨M3,D3,by rw [List.length_cons,show k+(l.length+1)=k+1+l.length by omega];exact h3,fun key=>?_⟩;rw [h4];constructor
  ·rintro ((a|rfl)|⟨x,hx,rfl⟩)
   ·exact .inl a
   ·exact .inr ⟨e,List.mem_cons_self,rfl⟩
   ·exact .inr ⟨x,List.mem_cons_of_mem _ hx,rfl⟩
  ·rintro (a|⟨x,hx,rfl⟩)
   ·exact .inl (.inl a)
   ·rcases List.mem_cons.1 hx with rfl|hx
    ·exact .inl (.inr rfl)
    ·exact .inr ⟨x,hx,rfl⟩
theorem du_stepG(hN:N=2∨N=3)(hla:la≤1000)(hH:∀key,key<la→H key<18446744073709551616)(s:Du H la N d F t M c){i:Nat}(hi:i<(t 0).n)(hg:goods N d t (lst t i)=true) :
  ∃M',Du H la N d F (tak (mvs N d t (lst t i)) i) M' 5000:=by
 have h0N:0<N:=by omega
 have hI:=(s.rep 0 h0N).rep.1;obtain⟨M0,h0,h1,h2⟩:=tk_rep (s.rep 0 h0N) hi 8 (Nat.le_refl _);have hll:=lst_len t i;have m0:MidV H la N d t M (fun _=>False) 0 t M:=⟨rfl,fun i h1 hi=>s.rep i hi,fun i h1 hi key _=>rfl,fun i h1 hi key hD _=>hD.elim,fun i h1 hi=>by omega,fun i=>rfl⟩
 obtain⟨M2,D2,h,hD⟩:=mid_goods hN hla hH s (lst t i) _ 0 _ _ hg (fun e he=>by
  obtain⟨k,hs,rfl⟩:=mem_lst hi he
  exact⟨hI.ok.gs i k,((s.rep 0 h0N).rep.2 _ _).2 ⟨i,k,hs,rfl⟩,hI.hash _ _ _ hs,fun q=>q⟩) (lst_nodup hI hi) m0
 rw [Nat.zero_add] at h
 have hD':∀key,D2 key↔∃j,j<8∧Stands (t 0) key i j:=fun key=>by
  rw [hD];constructor
  ·rintro (q|⟨e,he,rfl⟩)
   ·exact q.elim
   ·obtain⟨k,hs,_⟩:=mem_lst hi he
    exact⟨k,hs.2.1,hs⟩
  ·rintro ⟨j,_,hs⟩
   exact .inr ⟨_,lst_mem hs,hs.2.2.2⟩
 have hs0:∀key,D2 key→∃v,M 0 key=some v:=fun key hk=>by
  obtain⟨j,_,hs⟩:=(hD' key).1 hk;exact⟨_,((s.rep 0 h0N).rep.2 _ _).2 ⟨i,j,hs,rfl⟩⟩
 have hpos:∀key,tgt N d (H key)≠0:=fun key=>by have:=tgt_pos N d (H key);omega
 have z0:∀j,j≠0→tak (mvs N d t (lst t i)) i j=mvs N d t (lst t i) j:=fun j hj=>by unfold tak;rw [up_ne _ _ hj]
 have zz:tak (mvs N d t (lst t i)) i 0=tk (t 0) i 8:=by unfold tak;rw [up_same,mvs_zero]
 have hrep:∀j,j<N→RepN H la (tak (mvs N d t (lst t i)) i j) (if j=0 then M0 else M2 j):=fun j hj=>by
  by_cases e:j=0
  ·subst e;rw [if_pos rfl,zz];exact h0
  ·rw [if_neg e,z0 j e];exact h.rep j (by omega) hj
 refine⟨fun j=>if j=0 then M0 else M2 j,⟨hrep,fun j hj1 hj key hv=>?_,fun key hv=>?_,fun key=>?_,fun j hj1 hj=>?_⟩⟩
 ·rw [if_neg (by omega)] at hv
  by_cases q:D2 key∧tgt N d (H key)=j
  ·exact q.2
  ·rw [h.old j hj1 hj key q] at hv;exact s.tg j hj1 hj key hv
 ·rw [if_pos rfl] at hv
  rw [if_neg (hpos key)]
  by_cases q:∃j,j<8∧Stands (t 0) key i j
  ·rw [h1 key q] at hv;cases hv
  ·rw [h2 key q] at hv
   rw [h.old _ (tgt_pos ..) (tgt_lt hN ..) key fun x=>q ((hD' key).1 x.1)];exact s.one key hv
 ·rw [if_pos rfl,if_neg (hpos key),s.un key]
  by_cases q:∃j,j<8∧Stands (t 0) key i j
  ·have hDk:=(hD' key).2 q
   obtain⟨v,hv⟩:=hs0 key hDk;rw [h1 key q,h.new _ (tgt_pos ..) (tgt_lt hN ..) key hDk rfl,hv];rfl
  ·rw [h2 key q,h.old _ (tgt_pos ..) (tgt_lt hN ..) key fun x=>q ((hD' key).1 x.1)]
 ·have a:=(hrep 0 h0N).len
  have b:=cntM_le la (if 0=0 then M0 else M2 0);have e:=left_bounds (hrep j hj).rep.1.ok;have f:=okN_le (hrep j hj).rep.1.ok.n;unfold Tb.left at e;omega
theorem find_one{l:List Sl}{key:Nat}{e0:Sl}(h0:e0∈l)(hk:e0.key=key)(hu:∀e∈l,e.key=key→e=e0):l.find? (fun e=>e.key==key)=some e0:=by
 cases h:l.find? (fun e=>e.key==key) with
 | none =>
  have:=List.find?_eq_none.1 h e0 h0
  simp [hk] at this
 | some e =>
  have h1:=List.find?_some h;have h2:=List.mem_of_find?_eq_some h;rw [hu e h2 (by simpa using h1)]
theorem rep_mem{t:Tb}{M:Nat→Option Nat}(h:Rep H t M){e:Sl}(he:e∈ents t t.n):(M e.key).isSome=true∧e.hash=H e.key∧entOf t e.key (H e.key)=e:=by
 obtain⟨i,k,hi,hk,h3,rfl⟩:=mem_ents.1 he;have hh:=h.1.hash _ i k ⟨hi,hk,h3,rfl⟩;obtain⟨a,b⟩:=sound.ents_found h.1 he;rw [hh] at a b;exact⟨by rw [←h.there];exact a,hh,b⟩
theorem rep_has{t:Tb}{M:Nat→Option Nat}(h:Rep H t M){key:Nat}(hs:(M key).isSome=true):entOf t key (H key)∈ents t t.n∧(entOf t key (H key)).key=key:=by
 obtain⟨s,h1,h2,h3⟩:=h.at hs;obtain⟨_,_,h4⟩:=rep_mem h h1;rw [h2] at h4;rw [h4];exact⟨h1,h2⟩
theorem rep_find{t:Tb}{M:Nat→Option Nat}(h:Rep H t M)(key:Nat):(ents t t.n).find? (fun e=>e.key==key)=if isThere t key (H key)=true then some (entOf t key (H key)) else none:=by
 rw [h.there];cases hs:M key with
 | none =>
  simp only [Option.isSome_none,Bool.false_eq_true,if_false];refine List.find?_eq_none.2 fun e he=>?_
  intro hk;obtain⟨a,_,_⟩:=rep_mem h he;have hk':e.key=key:=by simpa using hk
  rw [hk',hs] at a;cases a
 | some v =>
  rw [if_pos (show (some v).isSome=true from rfl)];obtain⟨h1,h2⟩:=rep_has h (key:=key) (by rw [hs];rfl);refine find_one h1 h2 fun e he hk=>?_
  obtain⟨_,_,h3⟩:=rep_mem h he;rw [hk] at h3;exact h3.symm
theorem du_find(s:Du H la N d F t M c)(hN:N=2∨N=3)(ht:rd=false→∀j,1≤j→t j=Tb.new n1)(key:Nat) :
  (entsA t N).find? (fun e=>e.key==key)=(dual.fnd t key (H key) (js rd N d (H key))).map fun i=>entOf (t i) key (H key):=by
 have hin:∀e∈entsA t N,∃j,j<N∧e∈ents (t j) (t j).n:=fun e he=>by
  unfold entsA at he;obtain⟨j,hj,h⟩:=List.mem_flatMap.1 he;exact⟨j,List.mem_range.1 hj,h⟩
 have hp:=tgt_pos N d (H key);have hl:=tgt_lt hN d (H key)
 rcases s.seek0 hN ht key with⟨i,v,h1,h2,h3,h4⟩|⟨h1,h2,h5,h6⟩
 ·rw [h1]
  have hi:i<N:=by rcases h4 with rfl|⟨rfl,_⟩ <;> omega
  obtain⟨g1,g2⟩:=rep_has (s.rep i hi).rep (key:=key) (by rw [h3];rfl);refine find_one (e0:=entOf (t i) key (H key)) ?_ g2 fun e he hk=>?_
  ·unfold entsA
   exact List.mem_flatMap.2 ⟨i,List.mem_range.2 hi,g1⟩
  ·obtain⟨j,hj,hm⟩:=hin e he
   obtain⟨a,_,b⟩:=rep_mem (s.rep j hj).rep hm;rw [hk] at a b
   have hji:j=i:=by
    rcases Nat.eq_zero_or_pos j with e0|e0
    ·subst e0
     rcases h4 with e1|⟨e1,e2,_⟩
     ·exact e1.symm
     ·rw [e2] at a;cases a
    ·have q:=s.tg j e0 hj key a
     rcases h4 with e1|⟨e1,_,_⟩
     ·have w:=s.one key (by rw [e1] at h3;rw [h3];rfl)
      rw [q] at w;rw [w] at a;cases a
     ·rw [e1];exact q.symm
   subst hji;exact b.symm
 ·rw [h1]
  refine List.find?_eq_none.2 fun e he=>?_
  intro hk;have hk':e.key=key:=by simpa using hk
  obtain⟨j,hj,hm⟩:=hin e he;obtain⟨a,_,_⟩:=rep_mem (s.rep j hj).rep hm;rw [hk'] at a
  rcases Nat.eq_zero_or_pos j with e0|e0
  ·subst e0;rw [h5] at a;cases a
  ·have q:=s.tg j e0 hj key a
   rw [q] at h6;rw [h6] at a;cases a
end
end node
namespace node
open Go.ChangeShapes Go.WideShapes Go.ChangeAt Go.RowKit Go.Shelf swar under trap meter group probe lens tail call table evac dual
set_option maxRecDepth 20000 in
set_option maxHeartbeats 1000000 in
theorem lfind_any(o:Option Addr)(cp n:Nat)(l:List Sl)(hn:l.length=n)(h2:n≤2048)(key:Nat)(w:World)(hl:EntsAt o l w) :
  Calls Tryz.prog 17 #[.slice o n cp,.int .u64 (key:Nat)] w fun e w'=>e=.returned (.tuple #[group.entV (table.sK (l.find? fun e=>e.key==key)) (sV (l.find? fun e=>e.key==key)) (sH (l.find? fun e=>e.key==key)),.bool (l.find? fun e=>e.key==key).isSome])∧Below w.heap.size w w':=by
 have hb1:=new_block w (.cells #[.int .u64 0,.int .u64 0,.int .u64 0] 44);have V0:=EBox.new 0 0 0 w;have HV:=Lib.hid V0;have HB:=Lib.hid hb1;have HL:=Lib.hid (hl.read hb1)
 go_enter Tryz.func17,Tryz.ntmps17
 go_wp2;have HI:=Lib.hid (show Below w.heap.size w (w.alloc (.cells #[.int .u64 0,.int .u64 0,.int .u64 0] 44))∧EBox w.heap.size 0 0 0 (w.alloc (.cells #[.int .u64 0,.int .u64 0,.int .u64 0] 44))∧EntsAt o l (w.alloc (.cells #[.int .u64 0,.int .u64 0,.int .u64 0] 44)) from⟨hb1,V0,HL.out⟩);clear hl V0 HV HB HL hb1;generalize w.alloc (.cells #[.int .u64 0,.int .u64 0,.int .u64 0] 44)=W0 at HI ⊢;generalize hX:w.heap.size=X at HI ⊢;have hXe:w.heap.size=X:=hX;clear hX;have HSL:=Lib.hid hn;clear hn
 go_loopw [10] (fun i wr=>∃c:Nat,c≤n∧i=.int .i64 c∧Hid (Below X w wr∧EBox X 0 0 0 wr∧EntsAt o l wr∧∀j x,j<c→l[j]?=some x→(x.key==key)=false)) (fun i _=>n-(intOf i).toNat)
 case atStart=>exact⟨0,by omega,rfl,Lib.hid ⟨HI.out.1,HI.out.2.1,HI.out.2.2,fun j x hj=>absurd hj (Nat.not_lt_zero j)⟩⟩
 case round =>
  obtain⟨c,hc,rfl,HR⟩:=hrel;clear HI
  rcases Nat.lt_or_ge c n with hcn|hcn
  ·have hci:(c:Int)<(n:Int):=by omega
   obtain⟨x,rfl,hE⟩:=HR.out.2.2.1 c (by rw [HSL.out];exact hcn);obtain⟨y,hy⟩:∃y,l[c]?=some y:=⟨l[c]'(by rw [HSL.out];exact hcn),List.getElem?_eq_getElem _⟩;have hgy:l.getD c slZ=y:=by rw [List.getD_eq_getElem?_getD,hy];rfl
   have hE:group.ECells x c (l.getD c slZ) wr:=hE;rw [hgy] at hE;obtain⟨d0,d1,d2⟩:=hE;have HY:=Lib.hid hy;have hb1:=new_block wr (.cells #[.int .u64 (y.key:Nat),.int .u64 (y.val:Nat),.int .u64 (y.hash:Nat)] 44);have ye:=EBox.new y.key y.val y.hash wr;have y0:=ye.c0;have y1:=ye.c1;have y2:=ye.c2;have ze:=HR.out.2.1.keep hb1;have z0:=ze.c0;have z1:=ze.c1;have z2:=ze.c2;have z3:=ze.fz;have HB1:=Lib.hid hb1;have hXl:w.heap.size≤X:=by omega
   clear hy hgy hb1 ye ze;cases hb:y.key==key
   ·have hbi:((y.key:Int)==(key:Int))=false:=beq_eq_false_iff_ne.2 (fun e=>by have:=beq_eq_false_iff_ne.1 hb;omega)
    have HNB:=Lib.hid hb;clear hb;go_wp2
    go_roundw
    case rel =>
     refine⟨c+1,by omega,by simp,Lib.hid ⟨?_,HR.out.2.1.keep HB1.out,HR.out.2.2.1.read HB1.out,fun j x' hj hx=>?_⟩⟩
     ·have:=under.below_step (by rw [hXe];exact HR.out.1:Below w.heap.size w wr) HB1.out
      rw [hXe] at this;exact this
     rcases Nat.lt_or_ge j c with h|h
     ·exact HR.out.2.2.2 j x' h hx
     ·obtain rfl:j=c:=by omega
      rw [HY.out] at hx;injection hx with hx;subst hx;exact HNB.out
    case measure=>simp [intOf];omega
   ·have hbi:((y.key:Int)==(key:Int))=true:=by rw [show y.key=key by simpa using hb];simp
    have HF:=Lib.hid (find_at (p:=fun e=>e.key==key) HR.out.2.2.2 HY.out hb);clear hb;go_wp2;have hbw:=under.below_step (by rw [hXe];exact HR.out.1:Below w.heap.size w wr) HB1.out;have hf:=hbw;refine bodyPost_ret (v:=.tuple #[group.entV y.key y.val y.hash,.bool true]) (by simp [results,Tryz.results17,go_sem,z0,z1,z2]) rfl ⟨by rw [HF.out];rfl, ?_⟩;have:=((hf.setCell (p:=⟨X,0,none⟩) hXl (.int .u64 (y.key:Nat))).setCell (p:=⟨X,1,none⟩) hXl (.int .u64 (y.val:Nat))).setCell (p:=⟨X,2,none⟩) hXl (.int .u64 (y.hash:Nat));rw [hXe] at this;exact this
  ·obtain rfl:c=n:=by omega
   have HF:=Lib.hid (find_no (l:=l) (p:=fun e=>e.key==key) (by rw [HSL.out];exact HR.out.2.2.2));have z0:=HR.out.2.1.c0;have z1:=HR.out.2.1.c1;have z2:=HR.out.2.1.c2;have z3:=HR.out.2.1.fz;go_wp2;have hXl:w.heap.size≤X:=by omega
   have hf:Below w.heap.size w wr:=by rw [hXe];exact HR.out.1
   have hf3:=((hf.setCell (p:=⟨X,0,none⟩) hXl (.int .u64 0)).setCell (p:=⟨X,1,none⟩) hXl (.int .u64 0)).setCell (p:=⟨X,2,none⟩) hXl (.int .u64 0);refine bodyPost_ret (v:=.tuple #[group.entV 0 0 0,.bool false]) (by simp [results,Tryz.results17,go_sem,z0,z1,z2]) rfl ⟨by rw [HF.out];rfl,hf3⟩
end node
end Go.Proofs.YtdplhgpeggcmdaaGreatDoor
