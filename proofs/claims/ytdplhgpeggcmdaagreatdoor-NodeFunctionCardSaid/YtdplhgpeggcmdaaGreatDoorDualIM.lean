/- DualIM: several texts in one: plain facts and laws for the walks. No program is named. -/
import Derived.Test.YtdplhgpeggcmdaaGreatDoorEvacInv

/-! ### dual: all tables together are one partial function, which no step changes; how many entries there may be. -/
namespace Go.Proofs.YtdplhgpeggcmdaaGreatDoor.evac
open Go.ChangeShapes Go.WideShapes Go.ChangeAt Go.RowKit Go.Shelf swar under trap meter group probe lens tail call table
set_option linter.unusedSimpArgs false
set_option linter.unusedVariables false

theorem tk_len (t:Tb) (a:Nat):∀ k,(tk t a k).len = t.len - (((List.range k).filter (is 3 (t.gs a))).length:Nat)
 | 0 => by simp [tk]
 | k + 1 => by
  have hf:=tk_far t a k k (Nat.le_refl _)
  have ih:=tk_len t a k
  rw [tk_succ,List.range_succ,List.filter_append,List.length_append]
  by_cases h3:((tk t a k).gs a k).kind = 3
  ·rw [if_pos h3]
   have h4:is 3 (t.gs a) k = true:=by unfold is; rw [← hf]; exact decide_eq_true h3
   show (tk t a k).len - 1 = _
   rw [ih]; simp [h4]; omega
  ·rw [if_neg h3]
   have h4:is 3 (t.gs a) k = false:=by unfold is; rw [← hf]; exact decide_eq_false h3
   rw [ih]; simp [h4]
theorem puts_cnt (t:Tb) (key hs v:Nat):(t.puts key hs v).len + (t.puts key hs v).tombs ≤ t.len + t.tombs + 1:=by
 unfold Tb.puts
 cases ht:isThere t key hs
 ·show (t.place key hs v).len + (t.place key hs v).tombs ≤ _
  by_cases he:roomE t key hs = 0
  ·obtain ⟨_,k,_,h3,_⟩:=room_is he
   rw [place_at he h3]
   show t.len + 1 + (if is 2 (t.gs (roomG t key hs)) k = true then t.tombs - 1 else t.tombs) ≤ _
   split <;> omega
  ·rw [place_no he]; omega
 ·show (t.replace key hs v).len + (t.replace key hs v).tombs ≤ _
  unfold Tb.replace
  split
  ·show t.len + t.tombs ≤ _; omega
  ·show t.len + t.tombs ≤ _; omega
/-- a partial function in several tables: each key in the old one or in its target; c bounds what a target may come to -/
structure Du (H:Nat → Nat) (la N d:Nat) (F:Nat → Option Nat) (t:Nat → Tb) (M:Nat → Nat → Option Nat) (c:Nat):Prop where
 rep:∀ i,i < N → RepN H la (t i) (M i)
 tg:∀ i,1 ≤ i → i < N → ∀ key,(M i key).isSome = true → tgt N d (H key) = i
 one:∀ key,(M 0 key).isSome = true → M (tgt N d (H key)) key = none
 un:∀ key,F key = (M 0 key).or (M (tgt N d (H key)) key)
 cn:∀ i,1 ≤ i → i < N → (t 0).len + (t i).len + (t i).tombs ≤ (c:Int)
/-- within a step: the entries of one group are put into their targets, and still stand in the old table -/
structure MidV (H:Nat → Nat) (la N d:Nat) (t0:Nat → Tb) (M:Nat → Nat → Option Nat) (D:Nat → Prop) (k:Nat) (t:Nat → Tb) (M':Nat → Nat → Option Nat):Prop where
 zero:t 0 = t0 0
 rep:∀ i,1 ≤ i → i < N → RepN H la (t i) (M' i)
 old:∀ i,1 ≤ i → i < N → ∀ key,¬ (D key ∧ tgt N d (H key) = i) → M' i key = M i key
 new:∀ i,1 ≤ i → i < N → ∀ key,D key → tgt N d (H key) = i → M' i key = M 0 key
 cn:∀ i,1 ≤ i → i < N → (t i).len + (t i).tombs ≤ (t0 i).len + (t0 i).tombs + (k:Int)
 n:∀ i,(t i).n = (t0 i).n
section
variable {H:Nat → Nat} {la N d c:Nat} {F:Nat → Option Nat} {t:Nat → Tb} {M:Nat → Nat → Option Nat}
theorem MidV.next {t1:Nat → Tb} {M1:Nat → Nat → Option Nat} {D:Nat → Prop} {k:Nat} (hN:N = 2 ∨ N = 3) (hla:la ≤ 1000) (hH:∀ key,key < la → H key < 18446744073709551616) (s:Du H la N d F t M c) (hr:∀ i,1 ≤ i → i < N → (t i).len + (t i).tombs + (k:Int) < 7 * ((t i).n:Int)) {e:Sl} (hok:e.Ok) (he1:M 0 e.key = some e.val) (he2:e.hash = H e.key) (hno:¬ D e.key) (h:MidV H la N d t M D k t1 M1) :
  good1 N d t1 e = true ∧ ∃ M2,MidV H la N d t M (fun key => D key ∨ key = e.key) (k + 1) (mv1 N d t1 e) M2:=by
 have hk:e.key < la:=by
  rcases Nat.lt_or_ge e.key la with h' | h'
  ·exact h'
  ·have:=(s.rep 0 (by omega)).far _ h'; rw [this] at he1; cases he1
 obtain ⟨_,_,hv,_⟩:=hok
 have p1:=tgt_pos N d (H e.key)
 have p2:=tgt_lt hN d (H e.key)
 have hM:M1 (tgt N d (H e.key)) e.key = none:=by
  rw [h.old _ p1 p2 e.key fun q => hno q.1]
  exact s.one _ (by rw [he1]; rfl)
 have hl:1 ≤ (t1 (tgt N d (H e.key))).left:=by
  have q2:=hr _ p1 p2
  have q3:=h.cn _ p1 p2
  have q4:=h.n (tgt N d (H e.key))
  unfold Tb.left
  omega
 obtain ⟨a,b,c⟩:=repN_put (h.rep _ p1 p2) (v:=e.val) hk (by omega) (hH _ hk) hv (.inr hl)
 rw [hM] at c
 refine ⟨?_,fun i => if i = tgt N d (H e.key) then set (M1 i) e.key (some e.val) else M1 i,⟨?_,fun i h1 hi => ?_,fun i h1 hi key hc => ?_,fun i h1 hi key hD ht => ?_,fun i h1 hi => ?_,fun i => ?_⟩⟩
 ·unfold good1; rw [he2,b,c]; rfl
 ·unfold mv1; rw [he2,up_ne _ _ (by omega)]; exact h.zero
 ·unfold mv1; rw [he2]
  by_cases q:i = tgt N d (H e.key)
  ·subst q; rw [up_same,if_pos rfl]; exact a
  ·rw [up_ne _ _ q,if_neg q]; exact h.rep i h1 hi
 ·by_cases q:i = tgt N d (H e.key)
  ·rw [if_pos q,set_ne]
   ·exact h.old i h1 hi key fun x => hc ⟨.inl x.1,x.2⟩
   ·intro x; subst x; exact hc ⟨.inr rfl,q.symm⟩
  ·rw [if_neg q]; exact h.old i h1 hi key fun x => hc ⟨.inl x.1,x.2⟩
 ·by_cases x:key = e.key
  ·subst x
   rw [if_pos ht.symm,set_same,he1]
  ·have hD':D key:=hD.resolve_right x
   split
   ·rw [set_ne _ _ x]; exact h.new i h1 hi key hD' ht
   ·exact h.new i h1 hi key hD' ht
 ·have q:=h.cn i h1 hi
  unfold mv1; rw [he2]
  by_cases x:i = tgt N d (H e.key)
  ·subst x; rw [up_same]
   have:=puts_cnt (t1 (tgt N d (H e.key))) e.key (H e.key) e.val
   omega
  ·rw [up_ne _ _ x]; omega
 ·rw [mv1_n]; exact h.n i
theorem MidV.all (hN:N = 2 ∨ N = 3) (hla:la ≤ 1000) (hH:∀ key,key < la → H key < 18446744073709551616) (s:Du H la N d F t M c):∀ (l:List Sl) (D:Nat → Prop) (k:Nat) (t1:Nat → Tb) (M1:Nat → Nat → Option Nat),(∀ i,1 ≤ i → i < N → (t i).len + (t i).tombs + ((k + l.length:Nat):Int) ≤ 7 * ((t i).n:Int)) →
  (∀ e ∈ l,e.Ok ∧ M 0 e.key = some e.val ∧ e.hash = H e.key ∧ ¬ D e.key) → (l.map Sl.key).Nodup → MidV H la N d t M D k t1 M1 → goods N d t1 l = true ∧ ∃ M2 D2,MidV H la N d t M D2 (k + l.length) (mvs N d t1 l) M2 ∧ ∀ key,D2 key ↔ (D key ∨ ∃ e ∈ l,e.key = key)
 | [],D,k,t1,M1,_,_,_,h => ⟨rfl,M1,D,h,fun key => ⟨.inl,fun q => q.resolve_right fun ⟨e,he,_⟩ => by cases he⟩⟩
 | e :: l,D,k,t1,M1,hr,he,hn,h => by
  obtain ⟨q0,q1,q2,q3⟩:=he e List.mem_cons_self
  obtain ⟨g,M2,h2⟩:=MidV.next hN hla hH s (fun i h1 hi => by
   have:=hr i h1 hi
   simp only [List.length_cons] at this
   omega) q0 q1 q2 q3 h
  have hn':=List.nodup_cons.1 hn
  obtain ⟨g2,M3,D3,h3,h4⟩:=MidV.all hN hla hH s l _ (k + 1) _ _ (fun i h1 hi => by
   have:=hr i h1 hi
   simp only [List.length_cons] at this
   omega) (fun x hx => by
   obtain ⟨z,a,b,c⟩:=he x (List.mem_cons_of_mem _ hx)
   exact ⟨z,a,b,fun hD => hD.elim c fun hk => hn'.1 (by rw [← hk]; exact List.mem_map_of_mem hx)⟩) hn'.2 h2
  refine ⟨by show (_ && _) = true; rw [g,g2]; rfl,M3,D3,by rw [List.length_cons,show k + (l.length + 1) = k + 1 + l.length by omega]; exact h3,fun key => ?_⟩
  rw [h4]
  constructor
  ·rintro ((a | rfl) | ⟨x,hx,rfl⟩)
   ·exact .inl a
   ·exact .inr ⟨e,List.mem_cons_self,rfl⟩
   ·exact .inr ⟨x,List.mem_cons_of_mem _ hx,rfl⟩
  ·rintro (a | ⟨x,hx,rfl⟩)
   ·exact .inl (.inl a)
   ·rcases List.mem_cons.1 hx with rfl | hx
    ·exact .inl (.inr rfl)
    ·exact .inr ⟨x,hx,rfl⟩
theorem lst_len (t:Nat → Tb) (i:Nat):(tk (t 0) i 8).len = (t 0).len - ((lst t i).length:Nat):=by
 rw [tk_len]
 unfold lst entsG fulls
 rw [List.length_map]
 rfl
/-- a group is moved: the same partial function -/
theorem Du.step (hN:N = 2 ∨ N = 3) (hla:la ≤ 1000) (hH:∀ key,key < la → H key < 18446744073709551616) (s:Du H la N d F t M c) (hr:∀ i,1 ≤ i → i < N → (c:Int) ≤ 7 * ((t i).n:Int)) {i:Nat} (hi:i < (t 0).n) :
  goods N d t (lst t i) = true ∧ ∃ M',Du H la N d F (tak (mvs N d t (lst t i)) i) M' c:=by
 have h0N:0 < N:=by omega
 have hI:=(s.rep 0 h0N).rep.1
 obtain ⟨M0,h0,h1,h2⟩:=tk_rep (s.rep 0 h0N) hi 8 (Nat.le_refl _)
 have hll:=lst_len t i
 have hle:((lst t i).length:Int) ≤ (t 0).len:=by
  have:=h0.len
  omega
 have m0:MidV H la N d t M (fun _ => False) 0 t M:=⟨rfl,fun i h1 hi => s.rep i hi,fun i h1 hi key _ => rfl,fun i h1 hi key hD _ => hD.elim,fun i h1 hi => by omega,fun i => rfl⟩
 obtain ⟨g,M2,D2,h,hD⟩:=MidV.all hN hla hH s (lst t i) _ 0 _ _ (fun j h1 hj => by
  have a:=s.cn j h1 hj
  have b:=hr j h1 hj
  omega) (fun e he => by
  obtain ⟨k,hs,rfl⟩:=mem_lst hi he
  exact ⟨hI.ok.gs i k,((s.rep 0 h0N).rep.2 _ _).2 ⟨i,k,hs,rfl⟩,hI.hash _ _ _ hs,fun q => q⟩) (lst_nodup hI hi) m0
 rw [Nat.zero_add] at h
 have hD':∀ key,D2 key ↔ ∃ j,j < 8 ∧ Stands (t 0) key i j:=fun key => by
  rw [hD]
  constructor
  ·rintro (q | ⟨e,he,rfl⟩)
   ·exact q.elim
   ·obtain ⟨k,hs,_⟩:=mem_lst hi he
    exact ⟨k,hs.2.1,hs⟩
  ·rintro ⟨j,_,hs⟩
   exact .inr ⟨_,lst_mem hs,hs.2.2.2⟩
 have hs0:∀ key,D2 key → ∃ v,M 0 key = some v:=fun key hk => by
  obtain ⟨j,_,hs⟩:=(hD' key).1 hk
  exact ⟨_,((s.rep 0 h0N).rep.2 _ _).2 ⟨i,j,hs,rfl⟩⟩
 have hpos:∀ key,tgt N d (H key) ≠ 0:=fun key => by have:=tgt_pos N d (H key); omega
 have z0:∀ j,j ≠ 0 → tak (mvs N d t (lst t i)) i j = mvs N d t (lst t i) j:=fun j hj => by unfold tak; rw [up_ne _ _ hj]
 have zz:tak (mvs N d t (lst t i)) i 0 = tk (t 0) i 8:=by unfold tak; rw [up_same,mvs_zero]
 refine ⟨g,fun j => if j = 0 then M0 else M2 j,⟨fun j hj => ?_,fun j hj1 hj key hv => ?_,fun key hv => ?_,fun key => ?_,fun j hj1 hj => ?_⟩⟩
 ·by_cases e:j = 0
  ·subst e; rw [if_pos rfl,zz]; exact h0
  ·rw [if_neg e,z0 j e]; exact h.rep j (by omega) hj
 ·rw [if_neg (by omega)] at hv
  by_cases q:D2 key ∧ tgt N d (H key) = j
  ·exact q.2
  ·rw [h.old j hj1 hj key q] at hv; exact s.tg j hj1 hj key hv
 ·rw [if_pos rfl] at hv
  rw [if_neg (hpos key)]
  by_cases q:∃ j,j < 8 ∧ Stands (t 0) key i j
  ·rw [h1 key q] at hv; cases hv
  ·rw [h2 key q] at hv
   rw [h.old _ (tgt_pos ..) (tgt_lt hN ..) key fun x => q ((hD' key).1 x.1)]
   exact s.one key hv
 ·rw [if_pos rfl,if_neg (hpos key),s.un key]
  by_cases q:∃ j,j < 8 ∧ Stands (t 0) key i j
  ·have hDk:=(hD' key).2 q
   obtain ⟨v,hv⟩:=hs0 key hDk
   rw [h1 key q,h.new _ (tgt_pos ..) (tgt_lt hN ..) key hDk rfl,hv]; rfl
  ·rw [h2 key q,h.old _ (tgt_pos ..) (tgt_lt hN ..) key fun x => q ((hD' key).1 x.1)]
 ·rw [z0 j (by omega),zz,hll]
  have a:=h.cn j hj1 hj
  have b:=s.cn j hj1 hj
  omega
/-! ### a key is put, or deleted -/
/-- the tables' functions, one of them changed -/
def upM (M:Nat → Nat → Option Nat) (i:Nat) (m:Nat → Option Nat):Nat → Nat → Option Nat:=fun j => if j = i then m else M j
theorem upM_same (M:Nat → Nat → Option Nat) (i:Nat) (m:Nat → Option Nat):upM M i m i = m:=if_pos rfl
theorem upM_ne (M:Nat → Nat → Option Nat) {i j:Nat} (m:Nat → Option Nat) (h:j ≠ i):upM M i m j = M j:=if_neg h
theorem remove_cnt (t:Tb) (key hs:Nat):(t.remove key hs).len + (t.remove key hs).tombs ≤ t.len + t.tombs:=by
 unfold Tb.remove
 split
 ·unfold Tb.era
  show t.len - 1 + (if opens _ = true then t.tombs else t.tombs + 1) ≤ _
  split <;> omega
 ·omega
theorem Du.put0 (hN:N = 2 ∨ N = 3) (hla:la ≤ 1000) (hH:∀ key,key < la → H key < 18446744073709551616) (s:Du H la N d F t M c) {key v:Nat} (hk:key < la) (hv:v < 18446744073709551616) (hc:(M 0 key).isSome = true ∨ M (tgt N d (H key)) key = none ∧ 1 ≤ (t 0).left) :
  Du H la N d (set F key (some v)) (up t 0 ((t 0).puts key (H key) v)) (upM M 0 (set (M 0) key (some v))) (c + 1):=by
 have h0N:0 < N:=by omega
 have hpos:∀ key,tgt N d (H key) ≠ 0:=fun key => by have:=tgt_pos N d (H key); omega
 obtain ⟨a,_,_⟩:=repN_put (s.rep 0 h0N) hk (by omega) (hH _ hk) hv (hc.imp id fun q => q.2)
 have hlen:((t 0).puts key (H key) v).len ≤ (t 0).len + 1:=by
  rw [a.len,(s.rep 0 h0N).len]
  have:=cntM_set (v:=v) (M:=M 0) hk
  omega
 have hno:M (tgt N d (H key)) key = none:=hc.elim (s.one key) fun q => q.1
 refine ⟨fun j hj => ?_,fun j hj1 hj k hk' => ?_,fun k hk' => ?_,fun k => ?_,fun j hj1 hj => ?_⟩
 ·by_cases e:j = 0
  ·subst e; rw [up_same,upM_same]; exact a
  ·rw [up_ne _ _ e,upM_ne _ _ e]; exact s.rep j hj
 ·rw [upM_ne _ _ (by omega)] at hk'; exact s.tg j hj1 hj k hk'
 ·rw [upM_ne _ _ (hpos k)]
  rw [upM_same] at hk'
  by_cases e:k = key
  ·subst e; exact hno
  ·rw [set_ne _ _ e] at hk'; exact s.one k hk'
 ·rw [upM_same,upM_ne _ _ (hpos k)]
  by_cases e:k = key
  ·subst e; rw [set_same,set_same]; rfl
  ·rw [set_ne _ _ e,set_ne _ _ e]; exact s.un k
 ·have:=s.cn j hj1 hj
  rw [up_same,up_ne _ _ (by omega)]; omega
theorem Du.putT (hN:N = 2 ∨ N = 3) (hla:la ≤ 1000) (hH:∀ key,key < la → H key < 18446744073709551616) (s:Du H la N d F t M c) {key v:Nat} (hk:key < la) (hv:v < 18446744073709551616) (h0:M 0 key = none) (hc:(M (tgt N d (H key)) key).isSome = true ∨ 1 ≤ (t (tgt N d (H key))).left) :
  Du H la N d (set F key (some v)) (up t (tgt N d (H key)) ((t (tgt N d (H key))).puts key (H key) v)) (upM M (tgt N d (H key)) (set (M (tgt N d (H key))) key (some v))) (c + 1):=by
 have h0N:0 < N:=by omega
 have hpos:∀ key,tgt N d (H key) ≠ 0:=fun key => by have:=tgt_pos N d (H key); omega
 have p1:=tgt_pos N d (H key)
 have p2:=tgt_lt hN d (H key)
 obtain ⟨a,_,_⟩:=repN_put (s.rep _ p2) hk (by omega) (hH _ hk) hv hc
 refine ⟨fun j hj => ?_,fun j hj1 hj k hk' => ?_,fun k hk' => ?_,fun k => ?_,fun j hj1 hj => ?_⟩
 ·by_cases e:j = tgt N d (H key)
  ·subst e; rw [up_same,upM_same]; exact a
  ·rw [up_ne _ _ e,upM_ne _ _ e]; exact s.rep j hj
 ·by_cases e:j = tgt N d (H key)
  ·subst e
   rw [upM_same] at hk'
   by_cases q:k = key
   ·subst q; rfl
   ·rw [set_ne _ _ q] at hk'; exact s.tg _ hj1 hj k hk'
  ·rw [upM_ne _ _ e] at hk'; exact s.tg j hj1 hj k hk'
 ·rw [upM_ne _ _ (Ne.symm (hpos key))] at hk'
  have q:k ≠ key:=fun e => by subst e; rw [h0] at hk'; cases hk'
  by_cases e:tgt N d (H k) = tgt N d (H key)
  ·rw [e,upM_same,set_ne _ _ q,← e]; exact s.one k hk'
  ·rw [upM_ne _ _ e]; exact s.one k hk'
 ·rw [upM_ne _ _ (Ne.symm (hpos key))]
  by_cases q:k = key
  ·subst q; rw [set_same,upM_same,set_same,h0]; rfl
  ·rw [set_ne _ _ q,s.un k]
   by_cases e:tgt N d (H k) = tgt N d (H key)
   ·rw [e,upM_same,set_ne _ _ q]
   ·rw [upM_ne _ _ e]
 ·have q:=s.cn j hj1 hj
  rw [up_ne _ _ (Ne.symm (hpos key))]
  by_cases e:j = tgt N d (H key)
  ·subst e; rw [up_same]
   have:=puts_cnt (t (tgt N d (H key))) key (H key) v
   omega
  ·rw [up_ne _ _ e]; omega
theorem Du.del0 (hN:N = 2 ∨ N = 3) (s:Du H la N d F t M c) {key:Nat} (hk:key < la) (h0:(M 0 key).isSome = true) :
  Du H la N d (set F key none) (up t 0 ((t 0).remove key (H key))) (upM M 0 (set (M 0) key none)) c:=by
 have h0N:0 < N:=by omega
 have hpos:∀ key,tgt N d (H key) ≠ 0:=fun key => by have:=tgt_pos N d (H key); omega
 have a:=(s.rep 0 h0N).remove hk
 have hlen:((t 0).remove key (H key)).len ≤ (t 0).len:=by
  rw [a.len,(s.rep 0 h0N).len,cntM_del (M:=M 0) hk]
  split <;> omega
 refine ⟨fun j hj => ?_,fun j hj1 hj k hk' => ?_,fun k hk' => ?_,fun k => ?_,fun j hj1 hj => ?_⟩
 ·by_cases e:j = 0
  ·subst e; rw [up_same,upM_same]; exact a
  ·rw [up_ne _ _ e,upM_ne _ _ e]; exact s.rep j hj
 ·rw [upM_ne _ _ (by omega)] at hk'; exact s.tg j hj1 hj k hk'
 ·rw [upM_ne _ _ (hpos k)]
  rw [upM_same] at hk'
  by_cases e:k = key
  ·subst e; rw [set_same] at hk'; cases hk'
  ·rw [set_ne _ _ e] at hk'; exact s.one k hk'
 ·rw [upM_same,upM_ne _ _ (hpos k)]
  by_cases e:k = key
  ·subst e; rw [set_same,set_same,s.one k h0]; rfl
  ·rw [set_ne _ _ e,set_ne _ _ e]; exact s.un k
 ·have:=s.cn j hj1 hj
  rw [up_same,up_ne _ _ (by omega)]; omega
theorem Du.delT (hN:N = 2 ∨ N = 3) (s:Du H la N d F t M c) {key:Nat} (hk:key < la) (h0:M 0 key = none) :
  Du H la N d (set F key none) (up t (tgt N d (H key)) ((t (tgt N d (H key))).remove key (H key))) (upM M (tgt N d (H key)) (set (M (tgt N d (H key))) key none)) c:=by
 have hpos:∀ key,tgt N d (H key) ≠ 0:=fun key => by have:=tgt_pos N d (H key); omega
 have p2:=tgt_lt hN d (H key)
 have a:=(s.rep _ p2).remove hk
 refine ⟨fun j hj => ?_,fun j hj1 hj k hk' => ?_,fun k hk' => ?_,fun k => ?_,fun j hj1 hj => ?_⟩
 ·by_cases e:j = tgt N d (H key)
  ·subst e; rw [up_same,upM_same]; exact a
  ·rw [up_ne _ _ e,upM_ne _ _ e]; exact s.rep j hj
 ·by_cases e:j = tgt N d (H key)
  ·subst e
   rw [upM_same] at hk'
   by_cases q:k = key
   ·subst q; rfl
   ·rw [set_ne _ _ q] at hk'; exact s.tg _ hj1 hj k hk'
  ·rw [upM_ne _ _ e] at hk'; exact s.tg j hj1 hj k hk'
 ·rw [upM_ne _ _ (Ne.symm (hpos key))] at hk'
  have q:k ≠ key:=fun e => by subst e; rw [h0] at hk'; cases hk'
  by_cases e:tgt N d (H k) = tgt N d (H key)
  ·rw [e,upM_same,set_ne _ _ q,← e]; exact s.one k hk'
  ·rw [upM_ne _ _ e]; exact s.one k hk'
 ·rw [upM_ne _ _ (Ne.symm (hpos key))]
  by_cases q:k = key
  ·subst q; rw [set_same,upM_same,set_same,h0]; rfl
  ·rw [set_ne _ _ q,s.un k]
   by_cases e:tgt N d (H k) = tgt N d (H key)
   ·rw [e,upM_same,set_ne _ _ q]
   ·rw [upM_ne _ _ e]
 ·have q:=s.cn j hj1 hj
  rw [up_ne _ _ (Ne.symm (hpos key))]
  by_cases e:j = tgt N d (H key)
  ·subst e; rw [up_same]
   have:=remove_cnt (t (tgt N d (H key))) key (H key)
   omega
  ·rw [up_ne _ _ e]; omega
/-- an old table, and new ones without entries -/
theorem Du.start (hN:N = 2 ∨ N = 3) {M0:Nat → Option Nat} (h0:RepN H la (t 0) M0) (hn:∀ i,1 ≤ i → i < N → RepN H la (t i) (fun _ => none) ∧ (t i).tombs = 0) (hc:(t 0).len ≤ (c:Int)) :
  Du H la N d M0 t (fun i => if i = 0 then M0 else fun _ => none) c:=by
 have hpos:∀ key,tgt N d (H key) ≠ 0:=fun key => by have:=tgt_pos N d (H key); omega
 refine ⟨fun j hj => ?_,fun j hj1 hj k hk' => ?_,fun k hk' => ?_,fun k => ?_,fun j hj1 hj => ?_⟩
 ·by_cases e:j = 0
  ·subst e; exact h0
  ·rw [if_neg e]; exact (hn j (by omega) hj).1
 ·rw [if_neg (by omega)] at hk'; cases hk'
 ·rw [if_neg (hpos k)]
 ·rw [if_pos rfl,if_neg (hpos k)]; cases M0 k <;> rfl
 ·obtain ⟨a,b⟩:=hn j hj1 hj
  have:=a.len
  rw [cntM_none] at this
  omega
end
end Go.Proofs.YtdplhgpeggcmdaaGreatDoor.evac

/-! ### dual: where a key is found, what a Put and a Delete come to: the plain mathematics. No function is walked here. -/
namespace Go.Proofs.YtdplhgpeggcmdaaGreatDoor.dual
open group probe swar table evac
set_option linter.unusedSimpArgs false
set_option linter.unusedVariables false

/-- the tables in which a key is looked for, in order -/
def js (rd:Bool) (N d h:Nat):List Nat:=if rd = true then [tgt N d h,0] else [0]
theorem js_le (rd:Bool) (N d h:Nat):1 ≤ (js rd N d h).length ∧ (js rd N d h).length ≤ 2:=by cases rd <;> simp [js]
/-- the first of the tables that has a key -/
def fnd (t:Nat → Tb) (key h:Nat):List Nat → Option Nat
 | [] => none
 | i :: l => if isThere (t i) key h = true then some i else fnd t key h l
/-- how many groups are looked at for it -/
def fndK (t:Nat → Tb) (key h:Nat):List Nat → Nat
 | [] => 0
 | i :: l => looks (t i) key h + if isThere (t i) key h = true then 0 else fndK t key h l
/-- its entry -/
def fndE (t:Nat → Tb) (key h:Nat) (l:List Nat):Sl:=match fnd t key h l with
 | some i => entOf (t i) key h
 | none => ⟨1,0,0,0⟩
section
variable {t:Nat → Tb} {key h:Nat}
theorem fnd_pre:∀ {pre:List Nat},(∀ i ∈ pre,isThere (t i) key h = false) → ∀ l,fnd t key h (pre ++ l) = fnd t key h l ∧ fndK t key h (pre ++ l) = fndK t key h pre + fndK t key h l
 | [],_,l => ⟨rfl,by simp [fndK]⟩
 | i :: pre,hp,l => by
  obtain ⟨a,b⟩:=fnd_pre (pre:=pre) (fun j hj => hp j (List.mem_cons_of_mem _ hj)) l
  have hi:=hp i List.mem_cons_self
  refine ⟨?_, ?_⟩
  ·show (if isThere (t i) key h = true then some i else fnd t key h (pre ++ l)) = _
   rw [if_neg (by rw [hi]; decide)]; exact a
  ·show looks (t i) key h + (if isThere (t i) key h = true then 0 else fndK t key h (pre ++ l)) = looks (t i) key h + (if isThere (t i) key h = true then 0 else fndK t key h pre) + _
   rw [if_neg (by rw [hi]; decide),if_neg (by rw [hi]; decide),b]; omega
theorem fndK_one (i:Nat):fndK t key h [i] = looks (t i) key h:=by unfold fndK; simp [fndK]
/-- behind some tables that don't have it, one that does -/
theorem fnd_at {l:List Nat} {j:Nat} (hj:j < l.length) (hp:∀ i ∈ l.take j,isThere (t i) key h = false) (ht:isThere (t l[j]) key h = true):fnd t key h l = some l[j] ∧ fndK t key h l = fndK t key h (l.take j) + looks (t l[j]) key h:=by
 have e:l = l.take j ++ (l[j] :: l.drop (j + 1)):=by rw [← List.drop_eq_getElem_cons hj,List.take_append_drop]
 obtain ⟨a,b⟩:=fnd_pre hp (l[j] :: l.drop (j + 1))
 rw [← e] at a b
 refine ⟨?_, ?_⟩
 ·rw [a]; unfold fnd; rw [if_pos ht]
 ·rw [b]; congr 1; conv => lhs; unfold fndK
  rw [if_pos ht]; rfl
theorem fnd_off {l:List Nat} (hp:∀ i ∈ l,isThere (t i) key h = false):fnd t key h l = none:=by
 have:=(fnd_pre hp []).1
 rw [List.append_nil] at this
 rw [this]; rfl
theorem fnd_some {l:List Nat} {i:Nat} (hf:fnd t key h l = some i):i ∈ l ∧ isThere (t i) key h = true:=by
 induction l with
 | nil => cases hf
 | cons x l ih =>
  unfold fnd at hf
  split at hf
  ·next hx =>
   injection hf with hf
   subst hf
   exact ⟨List.mem_cons_self,hx⟩
  ·obtain ⟨a,b⟩:=ih hf
   exact ⟨List.mem_cons_of_mem _ a,b⟩
theorem fndK_snoc {l:List Nat} {j:Nat} (hj:j < l.length) (hp:∀ i ∈ l.take j,isThere (t i) key h = false):fndK t key h (l.take (j + 1)) = fndK t key h (l.take j) + looks (t l[j]) key h:=by
 rw [take_next l hj,(fnd_pre hp [l[j]]).2,fndK_one]
theorem off_snoc {l:List Nat} {j:Nat} (hj:j < l.length) (hp:∀ i ∈ l.take j,isThere (t i) key h = false) (ht:isThere (t l[j]) key h = false):∀ i ∈ l.take (j + 1),isThere (t i) key h = false:=fun i hi => by
 rw [take_next l hj] at hi
 rcases List.mem_append.1 hi with hi | hi
 ·exact hp i hi
 ·obtain rfl:i = l[j]:=by simpa using hi
  exact ht
end
/-! ### Put, Delete -/
/-- the table that a Put changes -/
def dI (t:Nat → Tb) (key h:Nat) (l:List Nat):Nat:=(fnd t key h l).getD (l.headD 0)
def dT (t:Nat → Tb) (key h v:Nat) (l:List Nat) (more:Bool):Nat → Tb:=if ((fnd t key h l).isSome || more) = true then up t (dI t key h l) ((t (dI t key h l)).puts key h v) else t
def dB (t:Nat → Tb) (key h:Nat) (l:List Nat) (more:Bool):Bool:=!(fnd t key h l).isSome && more && putB' (t (dI t key h l)) key h
def dE (t:Nat → Tb) (key h:Nat) (l:List Nat) (more:Bool):Nat:=if (fnd t key h l).isSome = true then 0 else if more = true then putE' (t (dI t key h l)) key h else 2
def eT (t:Nat → Tb) (key h:Nat) (l:List Nat):Nat → Tb:=match fnd t key h l with
 | some i => up t i ((t i).remove key h)
 | none => t
end Go.Proofs.YtdplhgpeggcmdaaGreatDoor.dual
namespace Go.Proofs.YtdplhgpeggcmdaaGreatDoor.evac
open group probe swar table dual
set_option linter.unusedSimpArgs false
set_option linter.unusedVariables false
section
variable {H:Nat → Nat} {la N d c n1:Nat} {F:Nat → Option Nat} {t:Nat → Tb} {M:Nat → Nat → Option Nat} {rd:Bool}
theorem stands_new {n key i k:Nat}:¬ Stands (Tb.new n) key i k:=fun h => by
 obtain ⟨_,_,h3,_⟩:=h
 revert h3
 show (Gp.new k).kind = 3 → False
 intro h3
 exact absurd (show (1:Nat) = 3 from h3) (by decide)
theorem Du.bare (s:Du H la N d F t M c) (hN:N = 2 ∨ N = 3) (ht:∀ j,1 ≤ j → t j = Tb.new n1) (key:Nat):M (tgt N d (H key)) key = none:=by
 have p1:=tgt_pos N d (H key)
 have p2:=tgt_lt hN d (H key)
 refine ((s.rep _ p2).rep.none_iff key).2 fun i k => ?_
 rw [ht _ p1]
 exact stands_new
theorem Du.th (s:Du H la N d F t M c) {i:Nat} (hi:i < N) (key:Nat):isThere (t i) key (H key) = (M i key).isSome:=(s.rep i hi).rep.there key
/-- where a key is found -/
theorem Du.seek0 (s:Du H la N d F t M c) (hN:N = 2 ∨ N = 3) (ht:rd = false → ∀ j,1 ≤ j → t j = Tb.new n1) (key:Nat) :
  (∃ i v,fnd t key (H key) (js rd N d (H key)) = some i ∧ F key = some v ∧ M i key = some v ∧ (i = 0 ∨ i = tgt N d (H key) ∧ M 0 key = none ∧ rd = true)) ∨ (fnd t key (H key) (js rd N d (H key)) = none ∧ F key = none ∧ M 0 key = none ∧ M (tgt N d (H key)) key = none):=by
 have h0:=s.th (i:=0) (by omega) key
 have h1:=s.th (tgt_lt hN d (H key)) key
 have hu:=s.un key
 have ho:=s.one key
 cases e0:M 0 key with
 | some v =>
  have e1:=ho (by rw [e0]; rfl)
  refine .inl ⟨0,v, ?_, ?_,e0,.inl rfl⟩
  ·rw [e0] at h0; rw [e1] at h1
   cases rd
   ·show (if _ then _ else _) = _
    rw [if_pos (by rw [h0]; rfl)]
   ·show (if _ then _ else (if _ then _ else _)) = _
    rw [if_neg (by rw [h1]; decide),if_pos (by rw [h0]; rfl)]
  ·rw [hu,e0]; rfl
 | none =>
  rw [e0] at h0 hu
  cases e1:M (tgt N d (H key)) key with
  | some v =>
   cases rd
   ·rw [s.bare hN (ht rfl) key] at e1; cases e1
   ·refine .inl ⟨tgt N d (H key),v, ?_, ?_,e1,.inr ⟨rfl,rfl,rfl⟩⟩
    ·rw [e1] at h1
     show (if _ then _ else _) = _
     rw [if_pos (by rw [h1]; rfl)]
    ·rw [hu,e1]; rfl
  | none =>
   refine .inr ⟨?_, ?_,rfl,rfl⟩
   ·rw [e1] at h1
    cases rd
    ·show (if _ then _ else _) = _
     rw [if_neg (by rw [h0]; decide)]; rfl
    ·show (if _ then _ else (if _ then _ else _)) = _
     rw [if_neg (by rw [h1]; decide),if_neg (by rw [h0]; decide)]; rfl
   ·rw [hu,e1]; rfl
theorem Du.seekV (s:Du H la N d F t M c) (hN:N = 2 ∨ N = 3) (ht:rd = false → ∀ j,1 ≤ j → t j = Tb.new n1) (key:Nat) :
  (dual.fnd t key (H key) (js rd N d (H key))).isSome = (F key).isSome ∧ ∀ v,F key = some v → (fndE t key (H key) (js rd N d (H key))).val = v:=by
 rcases s.seek0 hN ht key with ⟨i,v,h1,h2,h3,h4⟩ | ⟨h1,h2,_⟩
 ·refine ⟨by rw [h1,h2]; rfl,fun v' hv => ?_⟩
  have hi:i < N:=by
   have:=tgt_lt hN d (H key)
   rcases h4 with rfl | ⟨rfl,_⟩ <;> omega
  unfold fndE
  rw [h1]
  show (entOf (t i) key (H key)).val = v'
  rw [(s.rep i hi).rep.ent h3]
  exact Option.some.inj (h2.symm.trans hv)
 ·exact ⟨by rw [h1,h2],fun v hv => by rw [h2] at hv; cases hv⟩
/-- Put -/
theorem Du.dput (s:Du H la N d F t M c) (hN:N = 2 ∨ N = 3) (ht:rd = false → ∀ j,1 ≤ j → t j = Tb.new n1) (hla:la ≤ 1000) (hH:∀ key,key < la → H key < 18446744073709551616) (hr:rd = true → ∀ i,1 ≤ i → i < N → (c:Int) < 7 * ((t i).n:Int)) {key v:Nat} (hk:key < la) (hv:v < 18446744073709551616) :
  (dB t key (H key) (js rd N d (H key)) true = !(F key).isSome ∧ dE t key (H key) (js rd N d (H key)) true = 0 ∧ (∃ M',Du H la N d (set F key (some v)) (dT t key (H key) v (js rd N d (H key)) true) M' (c + 1)) ∧ (rd = false → ∀ j,1 ≤ j → dT t key (H key) v (js rd N d (H key)) true j = Tb.new n1)) ∨
  (rd = false ∧ F key = none ∧ dB t key (H key) (js rd N d (H key)) true = false ∧ dE t key (H key) (js rd N d (H key)) true = 2 ∧ dT t key (H key) v (js rd N d (H key)) true = t):=by
 have hkb:key < 18446744073709551616:=by omega
 have p1:=tgt_pos N d (H key)
 have p2:=tgt_lt hN d (H key)
 have keep:∀ x,(rd = false → ∀ j,1 ≤ j → up t 0 x j = Tb.new n1):=fun x hx j hj => by rw [up_ne _ _ (by omega)]; exact ht hx j hj
 rcases s.seek0 hN ht key with ⟨i,v0,h1,h2,h3,h4⟩ | ⟨h1,h2,h5,h6⟩
 ·left
  have eI:dI t key (H key) (js rd N d (H key)) = i:=by unfold dI; rw [h1]; rfl
  refine ⟨by unfold dB; rw [h1,h2]; rfl,by unfold dE; rw [h1]; rfl, ?_, ?_⟩
  ·have eT:dT t key (H key) v (js rd N d (H key)) true = up t i ((t i).puts key (H key) v):=by unfold dT; rw [eI,h1]; rfl
   rw [eT]
   rcases h4 with rfl | ⟨rfl,h5,_⟩
   ·exact ⟨_,s.put0 hN hla hH hk hv (.inl (by rw [h3]; rfl))⟩
   ·exact ⟨_,s.putT hN hla hH hk hv h5 (.inl (by rw [h3]; rfl))⟩
  ·intro hx
   have eT:dT t key (H key) v (js rd N d (H key)) true = up t i ((t i).puts key (H key) v):=by unfold dT; rw [eI,h1]; rfl
   rw [eT]
   rcases h4 with rfl | ⟨_,_,hrd⟩
   ·exact keep _ hx
   ·rw [hrd] at hx; cases hx
 ·cases rd with
  | false =>
   have eI:dI t key (H key) (js false N d (H key)) = 0:=by unfold dI; rw [h1]; rfl
   have eT:dT t key (H key) v (js false N d (H key)) true = up t 0 ((t 0).puts key (H key) v):=by unfold dT; rw [eI,h1]; rfl
   have eB:dB t key (H key) (js false N d (H key)) true = putB' (t 0) key (H key):=by unfold dB; rw [eI,h1]; rfl
   have eE:dE t key (H key) (js false N d (H key)) true = putE' (t 0) key (H key):=by unfold dE; rw [eI,h1]; rfl
   rw [eT,eB,eE]
   by_cases hl:1 ≤ (t 0).left
   ·left
    obtain ⟨_,q1,q2⟩:=repN_put (s.rep 0 (by omega)) hk hkb (hH _ hk) hv (.inr hl)
    exact ⟨by rw [q2,h5,h2],q1,⟨_,s.put0 hN hla hH hk hv (.inr ⟨h6,hl⟩)⟩,keep _⟩
   ·right
    obtain ⟨q1,q2,q3⟩:=((s.rep 0 (by omega)).rep.puts (key:=key) (v:=v) hkb (hH _ hk) hv).2 (by rw [h5]; rfl) (by omega)
    exact ⟨rfl,h2,q3,q2,by rw [q1,up_self]⟩
  | true =>
   left
   have eI:dI t key (H key) (js true N d (H key)) = tgt N d (H key):=by unfold dI; rw [h1]; rfl
   have eT:dT t key (H key) v (js true N d (H key)) true = up t (tgt N d (H key)) ((t (tgt N d (H key))).puts key (H key) v):=by unfold dT; rw [eI,h1]; rfl
   have eB:dB t key (H key) (js true N d (H key)) true = putB' (t (tgt N d (H key))) key (H key):=by unfold dB; rw [eI,h1]; rfl
   have eE:dE t key (H key) (js true N d (H key)) true = putE' (t (tgt N d (H key))) key (H key):=by unfold dE; rw [eI,h1]; rfl
   rw [eT,eB,eE]
   have hl:1 ≤ (t (tgt N d (H key))).left:=by
    have a:=s.cn _ p1 p2
    have b:=hr rfl _ p1 p2
    have e:=(s.rep 0 (by omega)).len
    unfold Tb.left
    omega
   obtain ⟨_,q1,q2⟩:=repN_put (s.rep _ p2) hk hkb (hH _ hk) hv (.inr hl)
   exact ⟨by rw [q2,h6,h2],q1,⟨_,s.putT hN hla hH hk hv h5 (.inr hl)⟩,fun e => by cases e⟩
/-- Delete -/
theorem Du.ddel (s:Du H la N d F t M c) (hN:N = 2 ∨ N = 3) (ht:rd = false → ∀ j,1 ≤ j → t j = Tb.new n1) {key:Nat} (hk:key < la) :
  (∃ M',Du H la N d (set F key none) (eT t key (H key) (js rd N d (H key))) M' c) ∧ (rd = false → ∀ j,1 ≤ j → eT t key (H key) (js rd N d (H key)) j = Tb.new n1):=by
 rcases s.seek0 hN ht key with ⟨i,v0,h1,h2,h3,h4⟩ | ⟨h1,h2,h5,h6⟩
 ·have eE:eT t key (H key) (js rd N d (H key)) = up t i ((t i).remove key (H key)):=by unfold eT; rw [h1]
  rw [eE]
  rcases h4 with rfl | ⟨rfl,h5,hrd⟩
  ·exact ⟨⟨_,s.del0 hN hk (by rw [h3]; rfl)⟩,fun hx j hj => by rw [up_ne _ _ (by omega)]; exact ht hx j hj⟩
  ·exact ⟨⟨_,s.delT hN hk h5⟩,fun hx => by rw [hrd] at hx; cases hx⟩
 ·have eE:eT t key (H key) (js rd N d (H key)) = t:=by unfold eT; rw [h1]
  rw [eE]
  have e:set F key none = F:=by
   funext k; by_cases hk:k = key
   ·subst hk; rw [set_same,h2]
   ·rw [set_ne _ _ hk]
  rw [e]
  exact ⟨⟨M,s⟩,ht⟩
end
end Go.Proofs.YtdplhgpeggcmdaaGreatDoor.evac
